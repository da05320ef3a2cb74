/- A part. -/
import Derived.Test.YtlendfhehhacpaaGreatU08
set_option linter.unusedVariables false
set_option linter.unusedSimpArgs false
set_option maxRecDepth 100000
set_option maxHeartbeats 8000000
namespace Go.Proofs.YtlendfhehhacpaaGreat
open Go.RowKit Nib Tryz
theorem tIndent_any (s : ByteArray) (a b : Int) (k : Nat) (w : World) (hs : s.size ≤ 1000) (hk : k ≤ s.size) (ea : a = beg s k) (eb : b = fin s k) :
  qC 187 #[.string s, .agg #[.int .i64 (a), .int .i64 (b)]] w (.agg #[.int .i64 (beg s k), .int .i64 (ind s k)]) := by
 subst ea eb
 have h1 := beg_le s k
 have h2 := fin_ge s k
 have h3 := fin_le hk
 have HI : Hid (Nib.up (fun i => blk (bt s i)) (fin s k) (beg s k) = ind s k) := rfl
 generalize ind s k = I at *
 generalize fin s k = F at *
 generalize beg s k = B at *
 go_enter func187, ntmps187
 go_wp2
 go_loopw [11] (fun _ wr => ∃ q : Nat, B ≤ q ∧ q ≤ F ∧ Hid (Nib.up (fun i => blk (bt s i)) F q = I) ∧ wr = (((w.alloc (.cells #[.int .i64 B, .int .i64 F] 128)).alloc (.cells #[.int .i64 0, .int .i64 0] 128)).alloc (.cells #[.int .i64 B, .int .i64 q] 128))) (fun _ wr => F - (intOf ((wr.cell? ⟨w.heap.size + 1 + 1, 1, none⟩).getD undef)).toNat)
 case atStart => exact ⟨B, by omega, by omega, HI, rfl⟩
 case round =>
  clear HI
  obtain ⟨q, hq1, hq2, hu, rfl⟩ := hrel
  by_cases hlt : q < F
  ·have hq : q < s.size := by omega
   by_cases hc : blk (bt s q) = true
   ·have HS : Hid (Nib.up (fun i => blk (bt s i)) F (q + 1) = I) := by rw [Hid, ← hu.out, up_step hlt hc]
    have HC : Hid (cls (((s[q]'hq).toNat : Nat) : Int) false = 0) := by rw [Hid, ← bt_in hq]; unfold cls; rw [if_pos hc]
    clear hu hc
    go_wp2_with fail
    refine (tClass_any _ false _).mono ?_
    rintro e w' ⟨rfl, rfl⟩
    rw [HC.out]
    go_wp2
    go_round
    case rel => exact ⟨q + 1, by omega, by omega, HS, by simp⟩
    case measure => go_simp; simp [intOf] <;> omega
   ·have HZ : Hid (q = I) := by rw [Hid, ← hu.out, up_stop]; exact fun h => hc h.2
    have HC : Hid ((cls (((s[q]'hq).toNat : Nat) : Int) false == 0) = false) := by
     rw [Hid, ← bt_in hq]; unfold cls; rw [if_neg hc]; (repeat' split) <;> rfl
    clear hu hc
    go_wp2_with fail
    refine (tClass_any _ false _).mono ?_
    rintro e w' ⟨rfl, rfl⟩
    generalize cls (((s[q]'hq).toNat : Nat) : Int) false = C at *
    have HC' := HC.out
    go_wp2
    refine bodyPost_ret (v := .agg #[.int .i64 (B), .int .i64 (q)]) (by simp [results, results187, go_sem]) rfl ⟨by rw [HZ.out], ?_⟩
    exact qB
  ·have HZ : Hid (q = I) := by rw [Hid, ← hu.out, up_stop]; exact fun h => hlt h.1
   clear hu
   go_wp2
   refine bodyPost_ret (v := .agg #[.int .i64 (B), .int .i64 (q)]) (by simp [results, results187, go_sem]) rfl ⟨by rw [HZ.out], ?_⟩
   exact qB
theorem qt29 {P : Prop} (h : P := by
  have HS : Hid (Nib.up (fun i => cls (bt s i) g == C) s.size (r + 1) = R) := by rw [Hid, ← hu.out, up_step hlt hc]
  have HC : Hid ((cls (((s[r]'hlt).toNat : Nat) : Int) g == C) = true) := by rw [Hid, ← bt_in hlt]; exact hc
  clear hu hc
  go_wp2_with fail
  refine (tClass_any _ g _).mono ?_
  rintro e w' ⟨rfl, rfl⟩
  generalize cls (((s[r]'hlt).toNat : Nat) : Int) g = D at *
  have HC' := HC.out
  go_wp2
  go_round
  case rel => exact ⟨r + 1, by omega, by omega, HS, by simp⟩
  case measure => go_simp; simp [intOf] <;> omega
 ) : P := h
theorem tRun_any (s : ByteArray) (p : Int) (k : Nat) (g : Bool) (w : World) (hs : s.size ≤ 1000) (e : p = k) (hk : k < s.size) (hn : bt s k ≠ 10) :
  qC 256 #[.string s, .int .i64 p, .bool g] w (.agg #[.int .i64 (runB s k g), .int .i64 (wrun s k g)]) := by
 subst e
 have hc' : (((s[k]'hk).toNat : Int) == 10) = false := by rw [← bt_in hk]; simp [hn]
 have HL : Hid (Nib.dn (fun i => cls (bt s i) g == cls (((s[k]'hk).toNat : Nat) : Int) g) k = runB s k g) := by rw [Hid, ← bt_in hk]; rfl
 have HR : Hid (Nib.up (fun i => cls (bt s i) g == cls (((s[k]'hk).toNat : Nat) : Int) g) s.size k = wrun s k g) := by rw [Hid, ← bt_in hk]; rfl
 have hL := runB_le s k g
 generalize runB s k g = L at *
 generalize wrun s k g = R at *
 go_enter func256, ntmps256
 go_wp2_with fail
 refine (tClass_any _ g _).mono ?_
 rintro e w' ⟨rfl, rfl⟩
 generalize cls (((s[k]'hk).toNat : Nat) : Int) g = C at *
 go_wp2
 go_loopw [28] (fun _ wr => ∃ q : Nat, q ≤ k ∧ Hid (Nib.dn (fun i => cls (bt s i) g == C) q = L) ∧ wr = ((w.alloc (.cells #[.int .i64 0, .int .i64 0] 128)).alloc (.cells #[.int .i64 q, .int .i64 k] 128))) (fun _ wr => (intOf ((wr.cell? ⟨w.heap.size + 1, 0, none⟩).getD undef)).toNat)
 case atStart => exact ⟨k, by omega, HL, rfl⟩
 case round =>
  clear HL
  obtain ⟨q, hq1, hu, rfl⟩ := hrel
  cases q with
  | zero =>
   have HZ : Hid (0 = L) := hu.out
   clear hu
   go_wp2
   go_loopw [46] (fun _ wr => ∃ z : Nat, k ≤ z ∧ z ≤ s.size ∧ Hid (Nib.up (fun i => cls (bt s i) g == C) s.size z = R) ∧ wr = ((w.alloc (.cells #[.int .i64 0, .int .i64 0] 128)).alloc (.cells #[.int .i64 (0), .int .i64 z] 128))) (fun _ wr => s.size - (intOf ((wr.cell? ⟨w.heap.size + 1, 1, none⟩).getD undef)).toNat)
   case atStart => exact ⟨k, by omega, by omega, HR, rfl⟩
   case round =>
    clear HR
    obtain ⟨r, hr1, hr2, hu, rfl⟩ := hrel
    by_cases hlt : r < s.size
    ·by_cases hc : (cls (bt s r) g == C) = true
     ·exact qt29
     ·have HZ2 : Hid (r = R) := by rw [Hid, ← hu.out, up_stop]; exact fun h => hc h.2
      have HC : Hid ((cls (((s[r]'hlt).toNat : Nat) : Int) g == C) = false) := by rw [Hid, ← bt_in hlt]; simpa using hc
      clear hu hc
      go_wp2_with fail
      refine (tClass_any _ g _).mono ?_
      rintro e w' ⟨rfl, rfl⟩
      generalize cls (((s[r]'hlt).toNat : Nat) : Int) g = D at *
      have HC' := HC.out
      go_wp2
      refine bodyPost_ret (v := .agg #[.int .i64 (0), .int .i64 (r)]) (by simp [results, results256, go_sem]) rfl ⟨by rw [← HZ.out, ← HZ2.out]; rfl, ?_⟩
      exact qB
    ·have HZ2 : Hid (r = R) := by rw [Hid, ← hu.out, up_stop]; exact fun h => hlt h.1
     clear hu
     go_wp2
     refine bodyPost_ret (v := .agg #[.int .i64 (0), .int .i64 (r)]) (by simp [results, results256, go_sem]) rfl ⟨by rw [← HZ.out, ← HZ2.out]; rfl, ?_⟩
     exact qB
  | succ q =>
   have hq : q < s.size := by omega
   by_cases hc : (cls (bt s q) g == C) = true
   ·have HS : Hid (Nib.dn (fun i => cls (bt s i) g == C) q = L) := by rw [Hid, ← hu.out, dn_step hc]
    have HC : Hid ((cls (((s[q]'hq).toNat : Nat) : Int) g == C) = true) := by rw [Hid, ← bt_in hq]; exact hc
    clear hu hc
    go_wp2_with fail
    refine (tClass_any _ g _).mono ?_
    rintro e w' ⟨rfl, rfl⟩
    generalize cls (((s[q]'hq).toNat : Nat) : Int) g = D at *
    have HC' := HC.out
    go_wp2
    go_round
    case rel => exact ⟨q, by omega, HS, by simp⟩
    case measure => go_simp; simp [intOf] <;> omega
   ·have HZ : Hid (q + 1 = L) := by rw [Hid, ← hu.out, dn_stop (by simpa using hc)]
    have HC : Hid ((cls (((s[q]'hq).toNat : Nat) : Int) g == C) = false) := by rw [Hid, ← bt_in hq]; simpa using hc
    clear hu hc
    go_wp2_with fail
    refine (tClass_any _ g _).mono ?_
    rintro e w' ⟨rfl, rfl⟩
    generalize cls (((s[q]'hq).toNat : Nat) : Int) g = D at *
    have HC' := HC.out
    go_wp2
    go_loopw [46] (fun _ wr => ∃ z : Nat, k ≤ z ∧ z ≤ s.size ∧ Hid (Nib.up (fun i => cls (bt s i) g == C) s.size z = R) ∧ wr = ((w.alloc (.cells #[.int .i64 0, .int .i64 0] 128)).alloc (.cells #[.int .i64 ((q : Int) + 1), .int .i64 z] 128))) (fun _ wr => s.size - (intOf ((wr.cell? ⟨w.heap.size + 1, 1, none⟩).getD undef)).toNat)
    case atStart => exact ⟨k, by omega, by omega, HR, rfl⟩
    case round =>
     clear HR
     obtain ⟨r, hr1, hr2, hu, rfl⟩ := hrel
     by_cases hlt : r < s.size
     ·by_cases hc : (cls (bt s r) g == C) = true
      ·exact qt29
      ·have HZ2 : Hid (r = R) := by rw [Hid, ← hu.out, up_stop]; exact fun h => hc h.2
       have HC : Hid ((cls (((s[r]'hlt).toNat : Nat) : Int) g == C) = false) := by rw [Hid, ← bt_in hlt]; simpa using hc
       clear hu hc
       go_wp2_with fail
       refine (tClass_any _ g _).mono ?_
       rintro e w' ⟨rfl, rfl⟩
       generalize cls (((s[r]'hlt).toNat : Nat) : Int) g = D at *
       have HC' := HC.out
       go_wp2
       refine bodyPost_ret (v := .agg #[.int .i64 ((q : Int) + 1), .int .i64 (r)]) (by simp [results, results256, go_sem]) rfl ⟨by rw [← HZ.out, ← HZ2.out]; rfl, ?_⟩
       exact qB
     ·have HZ2 : Hid (r = R) := by rw [Hid, ← hu.out, up_stop]; exact fun h => hlt h.1
      clear hu
      go_wp2
      refine bodyPost_ret (v := .agg #[.int .i64 ((q : Int) + 1), .int .i64 (r)]) (by simp [results, results256, go_sem]) rfl ⟨by rw [← HZ.out, ← HZ2.out]; rfl, ?_⟩
      exact qB
theorem ix0 (a b : Int) (w : World) : (Instr.index 128 (.agg #[.int .i64 (a), .int .i64 (b)]) (.int .i64 0)).run Tryz.prog w = .ok (.int .i64 a) w := by
 simp [Instr.index, run_underlying underlying128, asIntOf, go_sem, part]
theorem ix1 (a b : Int) (w : World) : (Instr.index 128 (.agg #[.int .i64 (a), .int .i64 (b)]) (.int .i64 1)).run Tryz.prog w = .ok (.int .i64 b) w := by
 simp [Instr.index, run_underlying underlying128, asIntOf, go_sem, part]
theorem tRun_none (s : ByteArray) (p : Int) (k : Nat) (g : Bool) (w : World) (hs : s.size ≤ 1000) (e : p = k) (hk : k ≤ s.size) (hn : ∀ h : k < s.size, bt s k = 10) :
  qC 256 #[.string s, .int .i64 p, .bool g] w (.agg #[.int .i64 (k), .int .i64 (k)]) := by
 subst e
 by_cases h : k < s.size
 ·have hc' : (((s[k]'h).toNat : Int) == 10) = true := by rw [← bt_in h]; simp [hn h]
  go_enter func256, ntmps256
  go_wp2
  refine bodyPost_ret (v := .agg #[.int .i64 (k), .int .i64 (k)]) (by simp [results, results256, go_sem]) rfl ⟨rfl, ?_⟩
  exact qB
 ·have e : k = s.size := by omega
  subst e
  clear hn
  go_enter func256, ntmps256
  go_wp2
  refine bodyPost_ret (v := .agg #[.int .i64 (s.size), .int .i64 (s.size)]) (by simp [results, results256, go_sem]) rfl ⟨rfl, ?_⟩
  exact qB
theorem tFirst_any (s : ByteArray) (a b : Int) (k : Nat) (w : World) (hs : s.size ≤ 1000) (hk : k ≤ s.size) (ea : a = beg s k) (eb : b = fin s k) :
  qC 243 #[.string s, .agg #[.int .i64 (a), .int .i64 (b)]] w (.int .i64 (frs s k)) := by
 subst ea eb
 have hf := fin_le hk
 have HF := frs_min s k hk
 rw [lst_max] at HF
 have HI : qH 187 #[.string s, .agg #[.int .i64 (beg s k), .int .i64 (fin s k)]] (.agg #[.int .i64 (beg s k), .int .i64 (ind s k)]) := fun ww => tIndent_any s _ _ k ww hs hk rfl rfl
 have HL : qH 202 #[.agg #[.int .i64 (beg s k), .int .i64 (fin s k)]] (.int .i64 (max ((beg s k : Nat) : Int) (((fin s k : Nat) : Int) - 1))) := fun ww => tLast_any _ _ ww qo
 generalize max ((beg s k : Nat) : Int) (((fin s k : Nat) : Int) - 1) = M at *
 generalize frs s k = R at *
 generalize ind s k = I at *
 generalize beg s k = B at *
 generalize fin s k = F at *
 have HF' : Hid ((R : Int) = min (I : Int) M) := HF
 clear HF
 have hx := ix1 B I
 go_enter func243, ntmps243
 go_wp2_with fail
 go_region_held3 (fun ww => ww.cell? ⟨w.heap.size, 0, none⟩ = some (.int .i64 B) ∧ ww.cell? ⟨w.heap.size, 1, none⟩ = some (.int .i64 F)) ((refine ⟨?_, ?_⟩ <;> go_simp)) (first | (go_at_call 187; refine (HI.out _).mono ?_; rintro r1 w1 ⟨rfl, h1⟩; obtain ⟨hc1, hf1, hz1⟩ := qb h1; (try simp at hz1); (try have ⟨hl1_0, hk1_0⟩ := qL w.heap.size w1.heap.size)) | (go_at_call 202; refine (HL.out _).mono ?_; rintro r2 w2 ⟨rfl, h2⟩; obtain ⟨hc2, hf2, hz2⟩ := qb h2; (try simp at hz2); (try have ⟨hl2_0, hk2_0⟩ := qL w.heap.size w2.heap.size)))
 go_wp2
 all_goals
  first
   | (refine bodyPost_ret (v := .int .i64 M) (by simp [results, results243, go_sem]) rfl ⟨ret_int (by rw [HF'.out]; omega), ?_⟩ <;> exact qB)
   | (refine bodyPost_ret (v := .int .i64 I) (by simp [results, results243, go_sem]) rfl ⟨ret_int (by rw [HF'.out]; omega), ?_⟩ <;> exact qB)
theorem tEnd_any (s : ByteArray) (w : World) :
  Calls Tryz.prog 246 #[.string s] w fun e w' => e = .returned (.int .i64 s.size) ∧ w' = w := by
 go_enter func246, ntmps246
 go_wp2
 go_ret
 exact ⟨rfl, rfl⟩
theorem sNumber_any (s : ByteArray) (p n : Int) (v c : Bool) (w : World) :
  qC 241 #[.agg #[.string s, .int .i64 (p), .int .i64 (n), .bool v, .bool c]] w (.int .i64 (max n 1)) := by
 go_enter func241, ntmps241
 go_wp2
 all_goals
  first
   | (refine bodyPost_ret (v := .int .i64 n) (by simp [results, results241, go_sem]) rfl ⟨ret_int qo, ?_⟩ <;> exact qB)
   | (refine bodyPost_ret (v := .int .i64 1) (by simp [results, results241, go_sem]) rfl ⟨ret_int qo, ?_⟩ <;> exact qB)
theorem sLine_any (s : ByteArray) (p n : Int) (v c : Bool) (k : Nat) (w : World) (hs : s.size ≤ 1000) (e : p = k) (hk : k ≤ s.size) :
  qC 239 #[.agg #[.string s, .int .i64 (p), .int .i64 (n), .bool v, .bool c]] w (.agg #[.int .i64 (beg s k), .int .i64 (fin s k)]) := by
 subst e
 have HL : qH 195 #[.string s, .int .i64 k] (.agg #[.int .i64 (beg s k), .int .i64 (fin s k)]) := fun ww => tLine_any s k k ww hs rfl hk
 generalize beg s k = B at *
 generalize fin s k = F at *
 go_enter func239, ntmps239
 go_wp2_with fail
 refine (HL.out _).mono ?_
 rintro e w1 ⟨rfl, h1⟩
 obtain ⟨hc1, hf1, hz1⟩ := qb h1
 try simp at hz1
 go_wp2
 refine bodyPost_ret (v := .agg #[.int .i64 (B), .int .i64 (F)]) (by simp [results, results239, go_sem, hc1]) rfl ⟨rfl, ?_⟩
 exact qB
def wayX (r : Int × Int × Bool) : Int := if r.2.2 = true then 0 else r.1
def wayK (r : Int × Int × Bool) : Int := if r.2.2 = true then 0 else r.2.1
def wayZ (r : Int × Int × Bool) : Bool := !r.2.2
theorem wayX_t (a b : Int) : wayX (a, b, true) = 0 := rfl
theorem wayK_t (a b : Int) : wayK (a, b, true) = 0 := rfl
theorem wayZ_t (a b : Int) : wayZ (a, b, true) = false := rfl
theorem wayX_f (a b : Int) : wayX (a, b, false) = a := rfl
theorem wayK_f (a b : Int) : wayK (a, b, false) = b := rfl
theorem wayZ_f (a b : Int) : wayZ (a, b, false) = true := rfl
def wayEq (r t : Int × Int × Bool) : Prop := r.2.2 = t.2.2 ∧ (r.2.2 = false → r.1 = t.1 ∧ r.2.1 = t.2.1)
theorem wayEq.all {r t : Int × Int × Bool} (h : wayEq r t) : wayX r = wayX t ∧ wayK r = wayK t ∧ wayZ r = wayZ t := by
 obtain ⟨a, b, c⟩ := r
 obtain ⟨a', b', c'⟩ := t
 obtain ⟨h1, h2⟩ := h
 simp only at h1 h2
 subst h1
 cases c with
 | true => exact ⟨rfl, rfl, rfl⟩
 | false => obtain ⟨rfl, rfl⟩ := h2 rfl; exact ⟨rfl, rfl, rfl⟩
theorem sUnless_any (s : ByteArray) (p n q kind : Int) (v c : Bool) (w : World) :
  qC 240 #[.agg #[.string s, .int .i64 (p), .int .i64 (n), .bool v, .bool c], .int .i64 q, .int .i64 kind] w (.tuple #[.agg #[.int .i64 (wayX ((q, kind, q == p))), .int .i64 (wayK ((q, kind, q == p)))], .bool (wayZ ((q, kind, q == p)))]) := by
 by_cases h : q = p
 ·subst h
  simp only [beq_self_eq_true, wayX_t, wayK_t, wayZ_t]
  go_enter func240, ntmps240
  go_wp2
  refine bodyPost_ret (v := .tuple #[.agg #[.int .i64 0, .int .i64 0], .bool false]) (by simp [results, results240, go_sem]) rfl ⟨rfl, ?_⟩
  exact qB
 ·have hb : (q == p) = false := by simp [h]
  rw [hb, wayX_f, wayK_f, wayZ_f]
  go_enter func240, ntmps240
  go_wp2
  refine bodyPost_ret (v := .tuple #[.agg #[.int .i64 q, .int .i64 kind], .bool true]) (by simp [results, results240, go_sem]) rfl ⟨rfl, ?_⟩
  exact qB
theorem sUnless_way {r : Int × Int × Bool} (s : ByteArray) (p n q kind : Int) (v c : Bool) (w : World) (h : wayEq (q, kind, q == p) r) :
  qC 240 #[.agg #[.string s, .int .i64 (p), .int .i64 (n), .bool v, .bool c], .int .i64 q, .int .i64 kind] w (.tuple #[.agg #[.int .i64 (wayX (r)), .int .i64 (wayK (r))], .bool (wayZ (r))]) := by
 have := sUnless_any s p n q kind v c w
 rwa [h.all.1, h.all.2.1, h.all.2.2] at this
theorem sHasInk_any (s : ByteArray) (p : Int) (k : Nat) (w : World) (hs : s.size ≤ 1000) (e : p = k) (hk : k ≤ s.size) :
  Calls Tryz.prog 247 #[.string s, .int .i64 p] w fun e w' => e = .returned (.bool (decide (k < s.size) && !spc (bt s k))) ∧ w' = w := by
 subst e
 by_cases h : k < s.size
 ·have HC : Hid ((decide (k < s.size) && !spc (bt s k)) = decide (2 ≤ cls (bt s k) false)) := by
   rw [Hid]; simp only [h, decide_true, Bool.true_and]
   cases hq : spc (bt s k) with
   | true => have := cls_spc (g := false) hq; simp; omega
   | false => have := cls_nsp (g := false) hq; simp; omega
  have hlo := cls_lo (bt s k) false
  have hhi := cls_hi (bt s k) false
  rw [HC.out]
  clear HC
  rw [bt_in h] at *
  have hne : ((k : Int) == (s.size : Int)) = false := by simp; omega
  have HT : Hid (∀ ww, Calls Tryz.prog 225 #[.int .u8 (((s[k]'h).toNat : Nat) : Int), .bool false] ww fun e w' => e = .returned (.int .i64 (cls (((s[k]'h).toNat : Nat) : Int) false)) ∧ w' = ww) := fun ww => tClass_any _ false ww
  generalize cls (((s[k]'h).toNat : Nat) : Int) false = C at *
  go_enter func247, ntmps247
  go_wp2_with fail
  refine (tEnd_any s _).mono ?_
  rintro e w' ⟨rfl, rfl⟩
  go_wp2_with fail
  refine (HT.out _).mono ?_
  rintro e w' ⟨rfl, rfl⟩
  go_wp2
  all_goals
   go_ret
   exact ⟨ret_bool (by rw [Bool.eq_iff_iff]; simp; omega), rfl⟩
 ·have e : k = s.size := by omega
  subst e
  simp only [Nat.lt_irrefl, decide_false, Bool.false_and]
  go_enter func247, ntmps247
  go_wp2
  go_ret
  exact ⟨rfl, rfl⟩
