/- Joined of the texts WalkL. -/
import Derived.Test.YtlendfhehhacpaaGreatP17
set_option linter.unusedVariables false
set_option linter.unusedSimpArgs false
set_option maxRecDepth 100000
set_option maxHeartbeats 8000000
namespace Go.Proofs.YtlendfhehhacpaaGreat
open Go.RowKit
theorem readVerb_any (x : Nib.Cmd) (verb last : Int) (rest : ByteArray) (w : World) (hs : rest.size ≤ 35184372088832) (hn0 : 0 ≤ x.n) (hn1 : x.n ≤ 99) :
    Calls Tryz.prog 58 #[.agg #[.bool x.more, .bool x.bad, .int .i64 x.reg, .int .i64 x.n, .bool x.given, .int .u8 x.verb, .bool x.twice, .int .u8 x.object, .bool x.around, .int .u8 x.way, .int .u8 x.other, .int .u8 x.c], .int .u8 verb, .int .u8 last, .string rest] w fun e w' => e = .returned (.agg #[.bool (Nib.rdVerb x verb last rest).more, .bool (Nib.rdVerb x verb last rest).bad, .int .i64 (Nib.rdVerb x verb last rest).reg, .int .i64 (Nib.rdVerb x verb last rest).n, .bool (Nib.rdVerb x verb last rest).given, .int .u8 (Nib.rdVerb x verb last rest).verb, .bool (Nib.rdVerb x verb last rest).twice, .int .u8 (Nib.rdVerb x verb last rest).object, .bool (Nib.rdVerb x verb last rest).around, .int .u8 (Nib.rdVerb x verb last rest).way, .int .u8 (Nib.rdVerb x verb last rest).other, .int .u8 (Nib.rdVerb x verb last rest).c]) ∧ Below w.heap.size w w' := by
  generalize hy : Nib.rdVerb x verb last rest = y
  have HY : Hid (Nib.rdVerb x verb last rest = y) := hy
  clear hy
  obtain ⟨_, hm2, hm3⟩ := Nib.num_le (s := rest) (a := 0) (by omega)
  have HR : Hid (y = if (Nib.num rest 0).2 = rest.size then Nib.cMore
    else if Nib.bt rest (Nib.num rest 0).2 = last then Nib.cT (Nib.rdCount x verb (Nib.num rest 0).1)
    else if Nib.bt rest (Nib.num rest 0).2 = 105 ∨ Nib.bt rest (Nib.num rest 0).2 = 97 then Nib.rdObject (Nib.rdCount x verb (Nib.num rest 0).1) (Nib.bt rest (Nib.num rest 0).2) (rest.extract ((Nib.num rest 0).2 + 1) rest.size)
    else Nib.rdWay (Nib.rdCount x verb (Nib.num rest 0).1) (Nib.bt rest (Nib.num rest 0).2) (rest.extract ((Nib.num rest 0).2 + 1) rest.size)) := by rw [Hid, ← HY.out]; rfl
  clear HY
  have HC : Hid (Nib.rdCount x verb (Nib.num rest 0).1 = if 0 < (Nib.num rest 0).1 then Nib.cVN x verb (if 99 < x.n * (Nib.num rest 0).1 then 99 else x.n * (Nib.num rest 0).1) else Nib.cV x verb) := rfl
  generalize Nib.rdCount x verb (Nib.num rest 0).1 = x1 at HR HC
  go_enter Tryz.func58, Tryz.ntmps58
  go_wp2_with fail
  refine (number_any rest 0 _ hs (by omega)).mono ?_
  rintro e w' ⟨rfl, rfl⟩
  generalize (Nib.num rest 0).1 = k at *
  generalize (Nib.num rest 0).2 = a at *
  have hmul : 0 ≤ x.n * (k : Int) ∧ x.n * (k : Int) ≤ 9801 := by
    constructor
    · exact Int.mul_nonneg hn0 (by omega)
    · have h1 : x.n * (k : Int) ≤ 99 * (k : Int) := Int.mul_le_mul_of_nonneg_right hn1 (by omega)
      omega
  obtain ⟨hmul0, hmul1⟩ := hmul
  by_cases hk : 0 < k
  · by_cases hbig : 99 < x.n * (k : Int)
    · have HC' : Hid (x1 = Nib.cVN x verb 99) := by rw [Hid, HC.out, if_pos hk, if_pos hbig]
      clear HC
      by_cases ha : a = rest.size
      · have ha' : ((a : Int) == (rest.size : Int)) = true := by simp [ha]
        have HZ : Hid (y = Nib.cMore) := by rw [Hid, HR.out, if_pos ha]
        clear HR HC' ha
        go_wp2_with fail
        refine (more_any _).mono ?_
        rintro e w3 ⟨rfl, h3⟩
        obtain ⟨hc3, hf3⟩ := bcell h3
        have hz3 := h3.size
        try simp at hz3
        go_wp2
        refine bodyPost_ret (v := .agg #[.bool Nib.cMore.more, .bool Nib.cMore.bad, .int .i64 Nib.cMore.reg, .int .i64 Nib.cMore.n, .bool Nib.cMore.given, .int .u8 Nib.cMore.verb, .bool Nib.cMore.twice, .int .u8 Nib.cMore.object, .bool Nib.cMore.around, .int .u8 Nib.cMore.way, .int .u8 Nib.cMore.other, .int .u8 Nib.cMore.c]) (by simp [results, Tryz.results58, go_sem, hc3, hz3]) rfl ⟨by rw [HZ.out], ?_⟩
        repeat (with_reducible first | exact Below.refl _ _ | refine b_s ?_ _ | refine b_a ?_ _ | refine Below.drew ?_ | refine below_drewN ?_ _ | refine b_t ?_ h3)
      · have ha' : ((a : Int) == (rest.size : Int)) = false := by simp; omega
        have hlt : a < rest.size := by omega
        rw [Hid, if_neg ha, Nib.bt_in hlt] at HR
        have HR' : Hid _ := HR
        clear HR ha
        by_cases hl : ((rest[a]'hlt).toNat : Int) = last
        · have hl' : (((rest[a]'hlt).toNat : Int) == last) = true := by simp [hl]
          have HZ : Hid (y = Nib.cT (Nib.cVN x verb 99)) := by rw [Hid, HR'.out, if_pos hl, HC'.out]
          clear HR' HC' hl
          go_wp2
          refine bodyPost_ret (v := .agg #[.bool (Nib.cT (Nib.cVN x verb 99)).more, .bool (Nib.cT (Nib.cVN x verb 99)).bad, .int .i64 (Nib.cT (Nib.cVN x verb 99)).reg, .int .i64 (Nib.cT (Nib.cVN x verb 99)).n, .bool (Nib.cT (Nib.cVN x verb 99)).given, .int .u8 (Nib.cT (Nib.cVN x verb 99)).verb, .bool (Nib.cT (Nib.cVN x verb 99)).twice, .int .u8 (Nib.cT (Nib.cVN x verb 99)).object, .bool (Nib.cT (Nib.cVN x verb 99)).around, .int .u8 (Nib.cT (Nib.cVN x verb 99)).way, .int .u8 (Nib.cT (Nib.cVN x verb 99)).other, .int .u8 (Nib.cT (Nib.cVN x verb 99)).c]) (by simp [results, Tryz.results58, go_sem, Nib.cT, Nib.cVN, Nib.cV]) rfl ⟨by rw [HZ.out], ?_⟩
          repeat (with_reducible first | exact Below.refl _ _ | refine b_s ?_ _ | refine b_a ?_ _ | refine Below.drew ?_ | refine below_drewN ?_ _)
        · have hl' : (((rest[a]'hlt).toNat : Int) == last) = false := by simp [hl]
          by_cases ho : ((rest[a]'hlt).toNat : Int) = 105 ∨ ((rest[a]'hlt).toNat : Int) = 97
          · have HZ : Hid (y = Nib.rdObject (Nib.cVN x verb 99) ((rest[a]'hlt).toNat : Int) (rest.extract (a + 1) rest.size)) := by rw [Hid, HR'.out, if_neg hl, if_pos ho, HC'.out]
            clear HR' HC' hl
            rcases ho with ho | ho
            · have ho1 : (((rest[a]'hlt).toNat : Int) == 105) = true := by simp [ho]
              clear ho
              go_wp2_with fail
              refine (readObject_any (Nib.cVN x verb 99) ((rest[a]'hlt).toNat : Int) (rest.extract (a + 1) rest.size) _).mono ?_
              rintro e w3 ⟨rfl, h3⟩
              obtain ⟨hc3, hf3⟩ := bcell h3
              have hz3 := h3.size
              try simp at hz3
              go_wp2
              refine bodyPost_ret (v := .agg #[.bool (Nib.rdObject (Nib.cVN x verb 99) ((rest[a]'hlt).toNat : Int) (rest.extract (a + 1) rest.size)).more, .bool (Nib.rdObject (Nib.cVN x verb 99) ((rest[a]'hlt).toNat : Int) (rest.extract (a + 1) rest.size)).bad, .int .i64 (Nib.rdObject (Nib.cVN x verb 99) ((rest[a]'hlt).toNat : Int) (rest.extract (a + 1) rest.size)).reg, .int .i64 (Nib.rdObject (Nib.cVN x verb 99) ((rest[a]'hlt).toNat : Int) (rest.extract (a + 1) rest.size)).n, .bool (Nib.rdObject (Nib.cVN x verb 99) ((rest[a]'hlt).toNat : Int) (rest.extract (a + 1) rest.size)).given, .int .u8 (Nib.rdObject (Nib.cVN x verb 99) ((rest[a]'hlt).toNat : Int) (rest.extract (a + 1) rest.size)).verb, .bool (Nib.rdObject (Nib.cVN x verb 99) ((rest[a]'hlt).toNat : Int) (rest.extract (a + 1) rest.size)).twice, .int .u8 (Nib.rdObject (Nib.cVN x verb 99) ((rest[a]'hlt).toNat : Int) (rest.extract (a + 1) rest.size)).object, .bool (Nib.rdObject (Nib.cVN x verb 99) ((rest[a]'hlt).toNat : Int) (rest.extract (a + 1) rest.size)).around, .int .u8 (Nib.rdObject (Nib.cVN x verb 99) ((rest[a]'hlt).toNat : Int) (rest.extract (a + 1) rest.size)).way, .int .u8 (Nib.rdObject (Nib.cVN x verb 99) ((rest[a]'hlt).toNat : Int) (rest.extract (a + 1) rest.size)).other, .int .u8 (Nib.rdObject (Nib.cVN x verb 99) ((rest[a]'hlt).toNat : Int) (rest.extract (a + 1) rest.size)).c]) (by simp [results, Tryz.results58, go_sem, hc3, hz3]) rfl ⟨by rw [HZ.out], ?_⟩
              repeat (with_reducible first | exact Below.refl _ _ | refine b_s ?_ _ | refine b_a ?_ _ | refine Below.drew ?_ | refine below_drewN ?_ _ | refine b_t ?_ h3)
            · have ho1 : (((rest[a]'hlt).toNat : Int) == 105) = false := by simp [ho]
              have ho2 : (((rest[a]'hlt).toNat : Int) == 97) = true := by simp [ho]
              clear ho
              go_wp2_with fail
              refine (readObject_any (Nib.cVN x verb 99) ((rest[a]'hlt).toNat : Int) (rest.extract (a + 1) rest.size) _).mono ?_
              rintro e w3 ⟨rfl, h3⟩
              obtain ⟨hc3, hf3⟩ := bcell h3
              have hz3 := h3.size
              try simp at hz3
              go_wp2
              refine bodyPost_ret (v := .agg #[.bool (Nib.rdObject (Nib.cVN x verb 99) ((rest[a]'hlt).toNat : Int) (rest.extract (a + 1) rest.size)).more, .bool (Nib.rdObject (Nib.cVN x verb 99) ((rest[a]'hlt).toNat : Int) (rest.extract (a + 1) rest.size)).bad, .int .i64 (Nib.rdObject (Nib.cVN x verb 99) ((rest[a]'hlt).toNat : Int) (rest.extract (a + 1) rest.size)).reg, .int .i64 (Nib.rdObject (Nib.cVN x verb 99) ((rest[a]'hlt).toNat : Int) (rest.extract (a + 1) rest.size)).n, .bool (Nib.rdObject (Nib.cVN x verb 99) ((rest[a]'hlt).toNat : Int) (rest.extract (a + 1) rest.size)).given, .int .u8 (Nib.rdObject (Nib.cVN x verb 99) ((rest[a]'hlt).toNat : Int) (rest.extract (a + 1) rest.size)).verb, .bool (Nib.rdObject (Nib.cVN x verb 99) ((rest[a]'hlt).toNat : Int) (rest.extract (a + 1) rest.size)).twice, .int .u8 (Nib.rdObject (Nib.cVN x verb 99) ((rest[a]'hlt).toNat : Int) (rest.extract (a + 1) rest.size)).object, .bool (Nib.rdObject (Nib.cVN x verb 99) ((rest[a]'hlt).toNat : Int) (rest.extract (a + 1) rest.size)).around, .int .u8 (Nib.rdObject (Nib.cVN x verb 99) ((rest[a]'hlt).toNat : Int) (rest.extract (a + 1) rest.size)).way, .int .u8 (Nib.rdObject (Nib.cVN x verb 99) ((rest[a]'hlt).toNat : Int) (rest.extract (a + 1) rest.size)).other, .int .u8 (Nib.rdObject (Nib.cVN x verb 99) ((rest[a]'hlt).toNat : Int) (rest.extract (a + 1) rest.size)).c]) (by simp [results, Tryz.results58, go_sem, hc3, hz3]) rfl ⟨by rw [HZ.out], ?_⟩
              repeat (with_reducible first | exact Below.refl _ _ | refine b_s ?_ _ | refine b_a ?_ _ | refine Below.drew ?_ | refine below_drewN ?_ _ | refine b_t ?_ h3)
          · have ho1 : (((rest[a]'hlt).toNat : Int) == 105) = false := by simp; omega
            have ho2 : (((rest[a]'hlt).toNat : Int) == 97) = false := by simp; omega
            have HZ : Hid (y = Nib.rdWay (Nib.cVN x verb 99) ((rest[a]'hlt).toNat : Int) (rest.extract (a + 1) rest.size)) := by rw [Hid, HR'.out, if_neg hl, if_neg ho, HC'.out]
            clear HR' HC' hl ho
            go_wp2_with fail
            refine (readWay_any (Nib.cVN x verb 99) ((rest[a]'hlt).toNat : Int) (rest.extract (a + 1) rest.size) _).mono ?_
            rintro e w3 ⟨rfl, h3⟩
            obtain ⟨hc3, hf3⟩ := bcell h3
            have hz3 := h3.size
            try simp at hz3
            go_wp2
            refine bodyPost_ret (v := .agg #[.bool (Nib.rdWay (Nib.cVN x verb 99) ((rest[a]'hlt).toNat : Int) (rest.extract (a + 1) rest.size)).more, .bool (Nib.rdWay (Nib.cVN x verb 99) ((rest[a]'hlt).toNat : Int) (rest.extract (a + 1) rest.size)).bad, .int .i64 (Nib.rdWay (Nib.cVN x verb 99) ((rest[a]'hlt).toNat : Int) (rest.extract (a + 1) rest.size)).reg, .int .i64 (Nib.rdWay (Nib.cVN x verb 99) ((rest[a]'hlt).toNat : Int) (rest.extract (a + 1) rest.size)).n, .bool (Nib.rdWay (Nib.cVN x verb 99) ((rest[a]'hlt).toNat : Int) (rest.extract (a + 1) rest.size)).given, .int .u8 (Nib.rdWay (Nib.cVN x verb 99) ((rest[a]'hlt).toNat : Int) (rest.extract (a + 1) rest.size)).verb, .bool (Nib.rdWay (Nib.cVN x verb 99) ((rest[a]'hlt).toNat : Int) (rest.extract (a + 1) rest.size)).twice, .int .u8 (Nib.rdWay (Nib.cVN x verb 99) ((rest[a]'hlt).toNat : Int) (rest.extract (a + 1) rest.size)).object, .bool (Nib.rdWay (Nib.cVN x verb 99) ((rest[a]'hlt).toNat : Int) (rest.extract (a + 1) rest.size)).around, .int .u8 (Nib.rdWay (Nib.cVN x verb 99) ((rest[a]'hlt).toNat : Int) (rest.extract (a + 1) rest.size)).way, .int .u8 (Nib.rdWay (Nib.cVN x verb 99) ((rest[a]'hlt).toNat : Int) (rest.extract (a + 1) rest.size)).other, .int .u8 (Nib.rdWay (Nib.cVN x verb 99) ((rest[a]'hlt).toNat : Int) (rest.extract (a + 1) rest.size)).c]) (by simp [results, Tryz.results58, go_sem, hc3, hz3]) rfl ⟨by rw [HZ.out], ?_⟩
            repeat (with_reducible first | exact Below.refl _ _ | refine b_s ?_ _ | refine b_a ?_ _ | refine Below.drew ?_ | refine below_drewN ?_ _ | refine b_t ?_ h3)
    · have HC' : Hid (x1 = Nib.cVN x verb (x.n * (k : Int))) := by rw [Hid, HC.out, if_pos hk, if_neg hbig]
      clear HC
      by_cases ha : a = rest.size
      · have ha' : ((a : Int) == (rest.size : Int)) = true := by simp [ha]
        have HZ : Hid (y = Nib.cMore) := by rw [Hid, HR.out, if_pos ha]
        clear HR HC' ha
        go_wp2_with fail
        refine (more_any _).mono ?_
        rintro e w3 ⟨rfl, h3⟩
        obtain ⟨hc3, hf3⟩ := bcell h3
        have hz3 := h3.size
        try simp at hz3
        go_wp2
        refine bodyPost_ret (v := .agg #[.bool Nib.cMore.more, .bool Nib.cMore.bad, .int .i64 Nib.cMore.reg, .int .i64 Nib.cMore.n, .bool Nib.cMore.given, .int .u8 Nib.cMore.verb, .bool Nib.cMore.twice, .int .u8 Nib.cMore.object, .bool Nib.cMore.around, .int .u8 Nib.cMore.way, .int .u8 Nib.cMore.other, .int .u8 Nib.cMore.c]) (by simp [results, Tryz.results58, go_sem, hc3, hz3]) rfl ⟨by rw [HZ.out], ?_⟩
        repeat (with_reducible first | exact Below.refl _ _ | refine b_s ?_ _ | refine b_a ?_ _ | refine Below.drew ?_ | refine below_drewN ?_ _ | refine b_t ?_ h3)
      · have ha' : ((a : Int) == (rest.size : Int)) = false := by simp; omega
        have hlt : a < rest.size := by omega
        rw [Hid, if_neg ha, Nib.bt_in hlt] at HR
        have HR' : Hid _ := HR
        clear HR ha
        by_cases hl : ((rest[a]'hlt).toNat : Int) = last
        · have hl' : (((rest[a]'hlt).toNat : Int) == last) = true := by simp [hl]
          have HZ : Hid (y = Nib.cT (Nib.cVN x verb (x.n * (k : Int)))) := by rw [Hid, HR'.out, if_pos hl, HC'.out]
          clear HR' HC' hl
          go_wp2
          refine bodyPost_ret (v := .agg #[.bool (Nib.cT (Nib.cVN x verb (x.n * (k : Int)))).more, .bool (Nib.cT (Nib.cVN x verb (x.n * (k : Int)))).bad, .int .i64 (Nib.cT (Nib.cVN x verb (x.n * (k : Int)))).reg, .int .i64 (Nib.cT (Nib.cVN x verb (x.n * (k : Int)))).n, .bool (Nib.cT (Nib.cVN x verb (x.n * (k : Int)))).given, .int .u8 (Nib.cT (Nib.cVN x verb (x.n * (k : Int)))).verb, .bool (Nib.cT (Nib.cVN x verb (x.n * (k : Int)))).twice, .int .u8 (Nib.cT (Nib.cVN x verb (x.n * (k : Int)))).object, .bool (Nib.cT (Nib.cVN x verb (x.n * (k : Int)))).around, .int .u8 (Nib.cT (Nib.cVN x verb (x.n * (k : Int)))).way, .int .u8 (Nib.cT (Nib.cVN x verb (x.n * (k : Int)))).other, .int .u8 (Nib.cT (Nib.cVN x verb (x.n * (k : Int)))).c]) (by simp [results, Tryz.results58, go_sem, Nib.cT, Nib.cVN, Nib.cV]) rfl ⟨by rw [HZ.out], ?_⟩
          repeat (with_reducible first | exact Below.refl _ _ | refine b_s ?_ _ | refine b_a ?_ _ | refine Below.drew ?_ | refine below_drewN ?_ _)
        · have hl' : (((rest[a]'hlt).toNat : Int) == last) = false := by simp [hl]
          by_cases ho : ((rest[a]'hlt).toNat : Int) = 105 ∨ ((rest[a]'hlt).toNat : Int) = 97
          · have HZ : Hid (y = Nib.rdObject (Nib.cVN x verb (x.n * (k : Int))) ((rest[a]'hlt).toNat : Int) (rest.extract (a + 1) rest.size)) := by rw [Hid, HR'.out, if_neg hl, if_pos ho, HC'.out]
            clear HR' HC' hl
            rcases ho with ho | ho
            · have ho1 : (((rest[a]'hlt).toNat : Int) == 105) = true := by simp [ho]
              clear ho
              go_wp2_with fail
              refine (readObject_any (Nib.cVN x verb (x.n * (k : Int))) ((rest[a]'hlt).toNat : Int) (rest.extract (a + 1) rest.size) _).mono ?_
              rintro e w3 ⟨rfl, h3⟩
              obtain ⟨hc3, hf3⟩ := bcell h3
              have hz3 := h3.size
              try simp at hz3
              go_wp2
              refine bodyPost_ret (v := .agg #[.bool (Nib.rdObject (Nib.cVN x verb (x.n * (k : Int))) ((rest[a]'hlt).toNat : Int) (rest.extract (a + 1) rest.size)).more, .bool (Nib.rdObject (Nib.cVN x verb (x.n * (k : Int))) ((rest[a]'hlt).toNat : Int) (rest.extract (a + 1) rest.size)).bad, .int .i64 (Nib.rdObject (Nib.cVN x verb (x.n * (k : Int))) ((rest[a]'hlt).toNat : Int) (rest.extract (a + 1) rest.size)).reg, .int .i64 (Nib.rdObject (Nib.cVN x verb (x.n * (k : Int))) ((rest[a]'hlt).toNat : Int) (rest.extract (a + 1) rest.size)).n, .bool (Nib.rdObject (Nib.cVN x verb (x.n * (k : Int))) ((rest[a]'hlt).toNat : Int) (rest.extract (a + 1) rest.size)).given, .int .u8 (Nib.rdObject (Nib.cVN x verb (x.n * (k : Int))) ((rest[a]'hlt).toNat : Int) (rest.extract (a + 1) rest.size)).verb, .bool (Nib.rdObject (Nib.cVN x verb (x.n * (k : Int))) ((rest[a]'hlt).toNat : Int) (rest.extract (a + 1) rest.size)).twice, .int .u8 (Nib.rdObject (Nib.cVN x verb (x.n * (k : Int))) ((rest[a]'hlt).toNat : Int) (rest.extract (a + 1) rest.size)).object, .bool (Nib.rdObject (Nib.cVN x verb (x.n * (k : Int))) ((rest[a]'hlt).toNat : Int) (rest.extract (a + 1) rest.size)).around, .int .u8 (Nib.rdObject (Nib.cVN x verb (x.n * (k : Int))) ((rest[a]'hlt).toNat : Int) (rest.extract (a + 1) rest.size)).way, .int .u8 (Nib.rdObject (Nib.cVN x verb (x.n * (k : Int))) ((rest[a]'hlt).toNat : Int) (rest.extract (a + 1) rest.size)).other, .int .u8 (Nib.rdObject (Nib.cVN x verb (x.n * (k : Int))) ((rest[a]'hlt).toNat : Int) (rest.extract (a + 1) rest.size)).c]) (by simp [results, Tryz.results58, go_sem, hc3, hz3]) rfl ⟨by rw [HZ.out], ?_⟩
              repeat (with_reducible first | exact Below.refl _ _ | refine b_s ?_ _ | refine b_a ?_ _ | refine Below.drew ?_ | refine below_drewN ?_ _ | refine b_t ?_ h3)
            · have ho1 : (((rest[a]'hlt).toNat : Int) == 105) = false := by simp [ho]
              have ho2 : (((rest[a]'hlt).toNat : Int) == 97) = true := by simp [ho]
              clear ho
              go_wp2_with fail
              refine (readObject_any (Nib.cVN x verb (x.n * (k : Int))) ((rest[a]'hlt).toNat : Int) (rest.extract (a + 1) rest.size) _).mono ?_
              rintro e w3 ⟨rfl, h3⟩
              obtain ⟨hc3, hf3⟩ := bcell h3
              have hz3 := h3.size
              try simp at hz3
              go_wp2
              refine bodyPost_ret (v := .agg #[.bool (Nib.rdObject (Nib.cVN x verb (x.n * (k : Int))) ((rest[a]'hlt).toNat : Int) (rest.extract (a + 1) rest.size)).more, .bool (Nib.rdObject (Nib.cVN x verb (x.n * (k : Int))) ((rest[a]'hlt).toNat : Int) (rest.extract (a + 1) rest.size)).bad, .int .i64 (Nib.rdObject (Nib.cVN x verb (x.n * (k : Int))) ((rest[a]'hlt).toNat : Int) (rest.extract (a + 1) rest.size)).reg, .int .i64 (Nib.rdObject (Nib.cVN x verb (x.n * (k : Int))) ((rest[a]'hlt).toNat : Int) (rest.extract (a + 1) rest.size)).n, .bool (Nib.rdObject (Nib.cVN x verb (x.n * (k : Int))) ((rest[a]'hlt).toNat : Int) (rest.extract (a + 1) rest.size)).given, .int .u8 (Nib.rdObject (Nib.cVN x verb (x.n * (k : Int))) ((rest[a]'hlt).toNat : Int) (rest.extract (a + 1) rest.size)).verb, .bool (Nib.rdObject (Nib.cVN x verb (x.n * (k : Int))) ((rest[a]'hlt).toNat : Int) (rest.extract (a + 1) rest.size)).twice, .int .u8 (Nib.rdObject (Nib.cVN x verb (x.n * (k : Int))) ((rest[a]'hlt).toNat : Int) (rest.extract (a + 1) rest.size)).object, .bool (Nib.rdObject (Nib.cVN x verb (x.n * (k : Int))) ((rest[a]'hlt).toNat : Int) (rest.extract (a + 1) rest.size)).around, .int .u8 (Nib.rdObject (Nib.cVN x verb (x.n * (k : Int))) ((rest[a]'hlt).toNat : Int) (rest.extract (a + 1) rest.size)).way, .int .u8 (Nib.rdObject (Nib.cVN x verb (x.n * (k : Int))) ((rest[a]'hlt).toNat : Int) (rest.extract (a + 1) rest.size)).other, .int .u8 (Nib.rdObject (Nib.cVN x verb (x.n * (k : Int))) ((rest[a]'hlt).toNat : Int) (rest.extract (a + 1) rest.size)).c]) (by simp [results, Tryz.results58, go_sem, hc3, hz3]) rfl ⟨by rw [HZ.out], ?_⟩
              repeat (with_reducible first | exact Below.refl _ _ | refine b_s ?_ _ | refine b_a ?_ _ | refine Below.drew ?_ | refine below_drewN ?_ _ | refine b_t ?_ h3)
          · have ho1 : (((rest[a]'hlt).toNat : Int) == 105) = false := by simp; omega
            have ho2 : (((rest[a]'hlt).toNat : Int) == 97) = false := by simp; omega
            have HZ : Hid (y = Nib.rdWay (Nib.cVN x verb (x.n * (k : Int))) ((rest[a]'hlt).toNat : Int) (rest.extract (a + 1) rest.size)) := by rw [Hid, HR'.out, if_neg hl, if_neg ho, HC'.out]
            clear HR' HC' hl ho
            go_wp2_with fail
            refine (readWay_any (Nib.cVN x verb (x.n * (k : Int))) ((rest[a]'hlt).toNat : Int) (rest.extract (a + 1) rest.size) _).mono ?_
            rintro e w3 ⟨rfl, h3⟩
            obtain ⟨hc3, hf3⟩ := bcell h3
            have hz3 := h3.size
            try simp at hz3
            go_wp2
            refine bodyPost_ret (v := .agg #[.bool (Nib.rdWay (Nib.cVN x verb (x.n * (k : Int))) ((rest[a]'hlt).toNat : Int) (rest.extract (a + 1) rest.size)).more, .bool (Nib.rdWay (Nib.cVN x verb (x.n * (k : Int))) ((rest[a]'hlt).toNat : Int) (rest.extract (a + 1) rest.size)).bad, .int .i64 (Nib.rdWay (Nib.cVN x verb (x.n * (k : Int))) ((rest[a]'hlt).toNat : Int) (rest.extract (a + 1) rest.size)).reg, .int .i64 (Nib.rdWay (Nib.cVN x verb (x.n * (k : Int))) ((rest[a]'hlt).toNat : Int) (rest.extract (a + 1) rest.size)).n, .bool (Nib.rdWay (Nib.cVN x verb (x.n * (k : Int))) ((rest[a]'hlt).toNat : Int) (rest.extract (a + 1) rest.size)).given, .int .u8 (Nib.rdWay (Nib.cVN x verb (x.n * (k : Int))) ((rest[a]'hlt).toNat : Int) (rest.extract (a + 1) rest.size)).verb, .bool (Nib.rdWay (Nib.cVN x verb (x.n * (k : Int))) ((rest[a]'hlt).toNat : Int) (rest.extract (a + 1) rest.size)).twice, .int .u8 (Nib.rdWay (Nib.cVN x verb (x.n * (k : Int))) ((rest[a]'hlt).toNat : Int) (rest.extract (a + 1) rest.size)).object, .bool (Nib.rdWay (Nib.cVN x verb (x.n * (k : Int))) ((rest[a]'hlt).toNat : Int) (rest.extract (a + 1) rest.size)).around, .int .u8 (Nib.rdWay (Nib.cVN x verb (x.n * (k : Int))) ((rest[a]'hlt).toNat : Int) (rest.extract (a + 1) rest.size)).way, .int .u8 (Nib.rdWay (Nib.cVN x verb (x.n * (k : Int))) ((rest[a]'hlt).toNat : Int) (rest.extract (a + 1) rest.size)).other, .int .u8 (Nib.rdWay (Nib.cVN x verb (x.n * (k : Int))) ((rest[a]'hlt).toNat : Int) (rest.extract (a + 1) rest.size)).c]) (by simp [results, Tryz.results58, go_sem, hc3, hz3]) rfl ⟨by rw [HZ.out], ?_⟩
            repeat (with_reducible first | exact Below.refl _ _ | refine b_s ?_ _ | refine b_a ?_ _ | refine Below.drew ?_ | refine below_drewN ?_ _ | refine b_t ?_ h3)
  · have HC' : Hid (x1 = Nib.cV x verb) := by rw [Hid, HC.out, if_neg hk]
    clear HC
    by_cases ha : a = rest.size
    · have ha' : ((a : Int) == (rest.size : Int)) = true := by simp [ha]
      have HZ : Hid (y = Nib.cMore) := by rw [Hid, HR.out, if_pos ha]
      clear HR HC' ha
      go_wp2_with fail
      refine (more_any _).mono ?_
      rintro e w3 ⟨rfl, h3⟩
      obtain ⟨hc3, hf3⟩ := bcell h3
      have hz3 := h3.size
      try simp at hz3
      go_wp2
      refine bodyPost_ret (v := .agg #[.bool Nib.cMore.more, .bool Nib.cMore.bad, .int .i64 Nib.cMore.reg, .int .i64 Nib.cMore.n, .bool Nib.cMore.given, .int .u8 Nib.cMore.verb, .bool Nib.cMore.twice, .int .u8 Nib.cMore.object, .bool Nib.cMore.around, .int .u8 Nib.cMore.way, .int .u8 Nib.cMore.other, .int .u8 Nib.cMore.c]) (by simp [results, Tryz.results58, go_sem, hc3, hz3]) rfl ⟨by rw [HZ.out], ?_⟩
      repeat (with_reducible first | exact Below.refl _ _ | refine b_s ?_ _ | refine b_a ?_ _ | refine Below.drew ?_ | refine below_drewN ?_ _ | refine b_t ?_ h3)
    · have ha' : ((a : Int) == (rest.size : Int)) = false := by simp; omega
      have hlt : a < rest.size := by omega
      rw [Hid, if_neg ha, Nib.bt_in hlt] at HR
      have HR' : Hid _ := HR
      clear HR ha
      by_cases hl : ((rest[a]'hlt).toNat : Int) = last
      · have hl' : (((rest[a]'hlt).toNat : Int) == last) = true := by simp [hl]
        have HZ : Hid (y = Nib.cT (Nib.cV x verb)) := by rw [Hid, HR'.out, if_pos hl, HC'.out]
        clear HR' HC' hl
        go_wp2
        refine bodyPost_ret (v := .agg #[.bool (Nib.cT (Nib.cV x verb)).more, .bool (Nib.cT (Nib.cV x verb)).bad, .int .i64 (Nib.cT (Nib.cV x verb)).reg, .int .i64 (Nib.cT (Nib.cV x verb)).n, .bool (Nib.cT (Nib.cV x verb)).given, .int .u8 (Nib.cT (Nib.cV x verb)).verb, .bool (Nib.cT (Nib.cV x verb)).twice, .int .u8 (Nib.cT (Nib.cV x verb)).object, .bool (Nib.cT (Nib.cV x verb)).around, .int .u8 (Nib.cT (Nib.cV x verb)).way, .int .u8 (Nib.cT (Nib.cV x verb)).other, .int .u8 (Nib.cT (Nib.cV x verb)).c]) (by simp [results, Tryz.results58, go_sem, Nib.cT, Nib.cVN, Nib.cV]) rfl ⟨by rw [HZ.out], ?_⟩
        repeat (with_reducible first | exact Below.refl _ _ | refine b_s ?_ _ | refine b_a ?_ _ | refine Below.drew ?_ | refine below_drewN ?_ _)
      · have hl' : (((rest[a]'hlt).toNat : Int) == last) = false := by simp [hl]
        by_cases ho : ((rest[a]'hlt).toNat : Int) = 105 ∨ ((rest[a]'hlt).toNat : Int) = 97
        · have HZ : Hid (y = Nib.rdObject (Nib.cV x verb) ((rest[a]'hlt).toNat : Int) (rest.extract (a + 1) rest.size)) := by rw [Hid, HR'.out, if_neg hl, if_pos ho, HC'.out]
          clear HR' HC' hl
          rcases ho with ho | ho
          · have ho1 : (((rest[a]'hlt).toNat : Int) == 105) = true := by simp [ho]
            clear ho
            go_wp2_with fail
            refine (readObject_any (Nib.cV x verb) ((rest[a]'hlt).toNat : Int) (rest.extract (a + 1) rest.size) _).mono ?_
            rintro e w3 ⟨rfl, h3⟩
            obtain ⟨hc3, hf3⟩ := bcell h3
            have hz3 := h3.size
            try simp at hz3
            go_wp2
            refine bodyPost_ret (v := .agg #[.bool (Nib.rdObject (Nib.cV x verb) ((rest[a]'hlt).toNat : Int) (rest.extract (a + 1) rest.size)).more, .bool (Nib.rdObject (Nib.cV x verb) ((rest[a]'hlt).toNat : Int) (rest.extract (a + 1) rest.size)).bad, .int .i64 (Nib.rdObject (Nib.cV x verb) ((rest[a]'hlt).toNat : Int) (rest.extract (a + 1) rest.size)).reg, .int .i64 (Nib.rdObject (Nib.cV x verb) ((rest[a]'hlt).toNat : Int) (rest.extract (a + 1) rest.size)).n, .bool (Nib.rdObject (Nib.cV x verb) ((rest[a]'hlt).toNat : Int) (rest.extract (a + 1) rest.size)).given, .int .u8 (Nib.rdObject (Nib.cV x verb) ((rest[a]'hlt).toNat : Int) (rest.extract (a + 1) rest.size)).verb, .bool (Nib.rdObject (Nib.cV x verb) ((rest[a]'hlt).toNat : Int) (rest.extract (a + 1) rest.size)).twice, .int .u8 (Nib.rdObject (Nib.cV x verb) ((rest[a]'hlt).toNat : Int) (rest.extract (a + 1) rest.size)).object, .bool (Nib.rdObject (Nib.cV x verb) ((rest[a]'hlt).toNat : Int) (rest.extract (a + 1) rest.size)).around, .int .u8 (Nib.rdObject (Nib.cV x verb) ((rest[a]'hlt).toNat : Int) (rest.extract (a + 1) rest.size)).way, .int .u8 (Nib.rdObject (Nib.cV x verb) ((rest[a]'hlt).toNat : Int) (rest.extract (a + 1) rest.size)).other, .int .u8 (Nib.rdObject (Nib.cV x verb) ((rest[a]'hlt).toNat : Int) (rest.extract (a + 1) rest.size)).c]) (by simp [results, Tryz.results58, go_sem, hc3, hz3]) rfl ⟨by rw [HZ.out], ?_⟩
            repeat (with_reducible first | exact Below.refl _ _ | refine b_s ?_ _ | refine b_a ?_ _ | refine Below.drew ?_ | refine below_drewN ?_ _ | refine b_t ?_ h3)
          · have ho1 : (((rest[a]'hlt).toNat : Int) == 105) = false := by simp [ho]
            have ho2 : (((rest[a]'hlt).toNat : Int) == 97) = true := by simp [ho]
            clear ho
            go_wp2_with fail
            refine (readObject_any (Nib.cV x verb) ((rest[a]'hlt).toNat : Int) (rest.extract (a + 1) rest.size) _).mono ?_
            rintro e w3 ⟨rfl, h3⟩
            obtain ⟨hc3, hf3⟩ := bcell h3
            have hz3 := h3.size
            try simp at hz3
            go_wp2
            refine bodyPost_ret (v := .agg #[.bool (Nib.rdObject (Nib.cV x verb) ((rest[a]'hlt).toNat : Int) (rest.extract (a + 1) rest.size)).more, .bool (Nib.rdObject (Nib.cV x verb) ((rest[a]'hlt).toNat : Int) (rest.extract (a + 1) rest.size)).bad, .int .i64 (Nib.rdObject (Nib.cV x verb) ((rest[a]'hlt).toNat : Int) (rest.extract (a + 1) rest.size)).reg, .int .i64 (Nib.rdObject (Nib.cV x verb) ((rest[a]'hlt).toNat : Int) (rest.extract (a + 1) rest.size)).n, .bool (Nib.rdObject (Nib.cV x verb) ((rest[a]'hlt).toNat : Int) (rest.extract (a + 1) rest.size)).given, .int .u8 (Nib.rdObject (Nib.cV x verb) ((rest[a]'hlt).toNat : Int) (rest.extract (a + 1) rest.size)).verb, .bool (Nib.rdObject (Nib.cV x verb) ((rest[a]'hlt).toNat : Int) (rest.extract (a + 1) rest.size)).twice, .int .u8 (Nib.rdObject (Nib.cV x verb) ((rest[a]'hlt).toNat : Int) (rest.extract (a + 1) rest.size)).object, .bool (Nib.rdObject (Nib.cV x verb) ((rest[a]'hlt).toNat : Int) (rest.extract (a + 1) rest.size)).around, .int .u8 (Nib.rdObject (Nib.cV x verb) ((rest[a]'hlt).toNat : Int) (rest.extract (a + 1) rest.size)).way, .int .u8 (Nib.rdObject (Nib.cV x verb) ((rest[a]'hlt).toNat : Int) (rest.extract (a + 1) rest.size)).other, .int .u8 (Nib.rdObject (Nib.cV x verb) ((rest[a]'hlt).toNat : Int) (rest.extract (a + 1) rest.size)).c]) (by simp [results, Tryz.results58, go_sem, hc3, hz3]) rfl ⟨by rw [HZ.out], ?_⟩
            repeat (with_reducible first | exact Below.refl _ _ | refine b_s ?_ _ | refine b_a ?_ _ | refine Below.drew ?_ | refine below_drewN ?_ _ | refine b_t ?_ h3)
        · have ho1 : (((rest[a]'hlt).toNat : Int) == 105) = false := by simp; omega
          have ho2 : (((rest[a]'hlt).toNat : Int) == 97) = false := by simp; omega
          have HZ : Hid (y = Nib.rdWay (Nib.cV x verb) ((rest[a]'hlt).toNat : Int) (rest.extract (a + 1) rest.size)) := by rw [Hid, HR'.out, if_neg hl, if_neg ho, HC'.out]
          clear HR' HC' hl ho
          go_wp2_with fail
          refine (readWay_any (Nib.cV x verb) ((rest[a]'hlt).toNat : Int) (rest.extract (a + 1) rest.size) _).mono ?_
          rintro e w3 ⟨rfl, h3⟩
          obtain ⟨hc3, hf3⟩ := bcell h3
          have hz3 := h3.size
          try simp at hz3
          go_wp2
          refine bodyPost_ret (v := .agg #[.bool (Nib.rdWay (Nib.cV x verb) ((rest[a]'hlt).toNat : Int) (rest.extract (a + 1) rest.size)).more, .bool (Nib.rdWay (Nib.cV x verb) ((rest[a]'hlt).toNat : Int) (rest.extract (a + 1) rest.size)).bad, .int .i64 (Nib.rdWay (Nib.cV x verb) ((rest[a]'hlt).toNat : Int) (rest.extract (a + 1) rest.size)).reg, .int .i64 (Nib.rdWay (Nib.cV x verb) ((rest[a]'hlt).toNat : Int) (rest.extract (a + 1) rest.size)).n, .bool (Nib.rdWay (Nib.cV x verb) ((rest[a]'hlt).toNat : Int) (rest.extract (a + 1) rest.size)).given, .int .u8 (Nib.rdWay (Nib.cV x verb) ((rest[a]'hlt).toNat : Int) (rest.extract (a + 1) rest.size)).verb, .bool (Nib.rdWay (Nib.cV x verb) ((rest[a]'hlt).toNat : Int) (rest.extract (a + 1) rest.size)).twice, .int .u8 (Nib.rdWay (Nib.cV x verb) ((rest[a]'hlt).toNat : Int) (rest.extract (a + 1) rest.size)).object, .bool (Nib.rdWay (Nib.cV x verb) ((rest[a]'hlt).toNat : Int) (rest.extract (a + 1) rest.size)).around, .int .u8 (Nib.rdWay (Nib.cV x verb) ((rest[a]'hlt).toNat : Int) (rest.extract (a + 1) rest.size)).way, .int .u8 (Nib.rdWay (Nib.cV x verb) ((rest[a]'hlt).toNat : Int) (rest.extract (a + 1) rest.size)).other, .int .u8 (Nib.rdWay (Nib.cV x verb) ((rest[a]'hlt).toNat : Int) (rest.extract (a + 1) rest.size)).c]) (by simp [results, Tryz.results58, go_sem, hc3, hz3]) rfl ⟨by rw [HZ.out], ?_⟩
          repeat (with_reducible first | exact Below.refl _ _ | refine b_s ?_ _ | refine b_a ?_ _ | refine Below.drew ?_ | refine below_drewN ?_ _ | refine b_t ?_ h3)
end Go.Proofs.YtlendfhehhacpaaGreat
