/- Joined of the texts WalkM1. -/
import Derived.Test.YtlendfhehhacpaaGreatP20
import Derived.Deep.RegionHeld3
set_option linter.unusedVariables false
set_option linter.unusedSimpArgs false
set_option maxRecDepth 100000
set_option maxHeartbeats 8000000
namespace Go.Proofs.YtlendfhehhacpaaGreat
open Go.RowKit
theorem read_nn (s : ByteArray) (marked : Bool) (w : World) (hs : s.size ≤ 35184372088832) (h0 : 0 < s.size) (hq : ¬ Nib.bt s 0 = 34) (hk : ¬ 0 < (Nib.num s 0).1) :
    Calls Tryz.prog 43 #[.string s, .bool marked] w fun e w' => e = .returned (.agg #[.bool (Nib.rd s marked).more, .bool (Nib.rd s marked).bad, .int .i64 (Nib.rd s marked).reg, .int .i64 (Nib.rd s marked).n, .bool (Nib.rd s marked).given, .int .u8 (Nib.rd s marked).verb, .bool (Nib.rd s marked).twice, .int .u8 (Nib.rd s marked).object, .bool (Nib.rd s marked).around, .int .u8 (Nib.rd s marked).way, .int .u8 (Nib.rd s marked).other, .int .u8 (Nib.rd s marked).c]) ∧ Below w.heap.size w w' := by
  generalize hy : Nib.rd s marked = y
  have HY : Hid (Nib.rd s marked = y) := hy
  clear hy
  have hq' : (((s[0]'h0).toNat : Int) == 34) = false := by rw [← Nib.bt_in h0]; simp [hq]
  have HR : Hid (y = if (Nib.num s 0).2 = s.size then Nib.cMore else Nib.rdBody (Nib.cHead (-1) (Nib.num s 0).1) marked (Nib.bt s (Nib.num s 0).2) (s.extract ((Nib.num s 0).2 + 1) s.size)) := by rw [Hid, ← HY.out, Nib.rd, if_neg hq]; rfl
  clear HY hq
  go_enter Tryz.func43, Tryz.ntmps43
  have hnum := Nib.num_le (s := s) (a := 0) (by omega)
  go_wp2_with fail
  refine (number_any s 0 _ hs (by omega)).mono ?_
  rintro e w' ⟨rfl, rfl⟩
  generalize Nib.num s 0 = ka at *
  obtain ⟨k, a⟩ := ka
  obtain ⟨hn1, hn2, hn3⟩ := hnum
  simp only at hn1 hn2 hn3 hk HR
  have HX : Hid (Nib.cHead (-1) k = Nib.cMk (-1) 1 false) := by simp [Hid, Nib.cHead, Nib.cMk, hk]
  by_cases ha : a = s.size
  · have ha' : ((a : Int) == (s.size : Int)) = true := by simp [ha]
    have HZ : Hid (y = Nib.cMore) := by rw [Hid, HR.out, if_pos ha]
    clear HR HX ha
    go_wp2_with fail
    refine (more_any _).mono ?_
    rintro e w3 ⟨rfl, h3⟩
    obtain ⟨hc3, hf3⟩ := bcell h3
    have hz3 := h3.size
    try simp at hz3
    have h30 := fun o => hc3 w.heap.size o (by simp <;> omega)
    go_wp2
    refine bodyPost_ret (v := .agg #[.bool Nib.cMore.more, .bool Nib.cMore.bad, .int .i64 Nib.cMore.reg, .int .i64 Nib.cMore.n, .bool Nib.cMore.given, .int .u8 Nib.cMore.verb, .bool Nib.cMore.twice, .int .u8 Nib.cMore.object, .bool Nib.cMore.around, .int .u8 Nib.cMore.way, .int .u8 Nib.cMore.other, .int .u8 Nib.cMore.c]) (by simp [results, Tryz.results43, go_sem, h30]) rfl ⟨by rw [HZ.out], ?_⟩
    repeat (with_reducible first | exact Below.refl _ _ | refine b_s ?_ _ | refine b_a ?_ _ | refine Below.drew ?_ | refine below_drewN ?_ _ | refine b_t ?_ h3)
  · have ha' : ((a : Int) == (s.size : Int)) = false := by simp; omega
    have hlt : a < s.size := by omega
    rw [Hid, if_neg ha, Nib.bt_in hlt, HX.out] at HR
    have HR' : Hid _ := HR
    clear HR HX ha
    cases marked with
    | true =>
      have HZ : Hid (y = Nib.rdMarked (Nib.cMk (-1) 1 false) ((s[a]'hlt).toNat : Int) (s.extract (a + 1) s.size)) := by rw [Hid, HR'.out]; rfl
      clear HR'
      go_wp2_with fail
      refine (readMarked_any (Nib.cMk (-1) 1 false) ((s[a]'hlt).toNat : Int) (s.extract (a + 1) s.size) _).mono ?_
      rintro e w3 ⟨rfl, h3⟩
      obtain ⟨hc3, hf3⟩ := bcell h3
      have hz3 := h3.size
      try simp at hz3
      have h30 := fun o => hc3 w.heap.size o (by simp <;> omega)
      go_wp2
      refine bodyPost_ret (v := .agg #[.bool (Nib.rdMarked (Nib.cMk (-1) 1 false) ((s[a]'hlt).toNat : Int) (s.extract (a + 1) s.size)).more, .bool (Nib.rdMarked (Nib.cMk (-1) 1 false) ((s[a]'hlt).toNat : Int) (s.extract (a + 1) s.size)).bad, .int .i64 (Nib.rdMarked (Nib.cMk (-1) 1 false) ((s[a]'hlt).toNat : Int) (s.extract (a + 1) s.size)).reg, .int .i64 (Nib.rdMarked (Nib.cMk (-1) 1 false) ((s[a]'hlt).toNat : Int) (s.extract (a + 1) s.size)).n, .bool (Nib.rdMarked (Nib.cMk (-1) 1 false) ((s[a]'hlt).toNat : Int) (s.extract (a + 1) s.size)).given, .int .u8 (Nib.rdMarked (Nib.cMk (-1) 1 false) ((s[a]'hlt).toNat : Int) (s.extract (a + 1) s.size)).verb, .bool (Nib.rdMarked (Nib.cMk (-1) 1 false) ((s[a]'hlt).toNat : Int) (s.extract (a + 1) s.size)).twice, .int .u8 (Nib.rdMarked (Nib.cMk (-1) 1 false) ((s[a]'hlt).toNat : Int) (s.extract (a + 1) s.size)).object, .bool (Nib.rdMarked (Nib.cMk (-1) 1 false) ((s[a]'hlt).toNat : Int) (s.extract (a + 1) s.size)).around, .int .u8 (Nib.rdMarked (Nib.cMk (-1) 1 false) ((s[a]'hlt).toNat : Int) (s.extract (a + 1) s.size)).way, .int .u8 (Nib.rdMarked (Nib.cMk (-1) 1 false) ((s[a]'hlt).toNat : Int) (s.extract (a + 1) s.size)).other, .int .u8 (Nib.rdMarked (Nib.cMk (-1) 1 false) ((s[a]'hlt).toNat : Int) (s.extract (a + 1) s.size)).c]) (by simp [results, Tryz.results43, go_sem, h30]) rfl ⟨by rw [HZ.out], ?_⟩
      repeat (with_reducible first | exact Below.refl _ _ | refine b_s ?_ _ | refine b_a ?_ _ | refine Below.drew ?_ | refine below_drewN ?_ _ | refine b_t ?_ h3)
    | false =>
      have HN : Hid (y = Nib.rdNorm (Nib.cMk (-1) 1 false) ((s[a]'hlt).toNat : Int) (s.extract (a + 1) s.size)) := by rw [Hid, HR'.out]; rfl
      clear HR'
      go_wp2_with fail
      refine (in_any Nib.kVerbs _ _ (by decide)).mono ?_
      rintro e w' ⟨rfl, rfl⟩
      have hrs : (s.extract (a + 1) s.size).size ≤ 35184372088832 := by simp; omega
      generalize s.extract (a + 1) s.size = rs at *
      cases hv : Nib.mem Nib.kVerbs ((s[a]'hlt).toNat : Int) with
      | true =>
        have HZ : Hid (y = Nib.rdVerb (Nib.cMk (-1) 1 false) ((s[a]'hlt).toNat : Int) ((s[a]'hlt).toNat : Int) rs) := by rw [Hid, HN.out, Nib.rdNorm, if_pos hv]
        clear HN
        go_wp2_with fail
        refine (readVerb_any (Nib.cMk (-1) 1 false) ((s[a]'hlt).toNat : Int) ((s[a]'hlt).toNat : Int) rs _ hrs (by simp [Nib.cMk]) (by simp [Nib.cMk]; try omega)).mono ?_
        rintro e w3 ⟨rfl, h3⟩
        obtain ⟨hc3, hf3⟩ := bcell h3
        have hz3 := h3.size
        try simp at hz3
        have h30 := fun o => hc3 w.heap.size o (by simp <;> omega)
        go_wp2
        refine bodyPost_ret (v := .agg #[.bool (Nib.rdVerb (Nib.cMk (-1) 1 false) ((s[a]'hlt).toNat : Int) ((s[a]'hlt).toNat : Int) rs).more, .bool (Nib.rdVerb (Nib.cMk (-1) 1 false) ((s[a]'hlt).toNat : Int) ((s[a]'hlt).toNat : Int) rs).bad, .int .i64 (Nib.rdVerb (Nib.cMk (-1) 1 false) ((s[a]'hlt).toNat : Int) ((s[a]'hlt).toNat : Int) rs).reg, .int .i64 (Nib.rdVerb (Nib.cMk (-1) 1 false) ((s[a]'hlt).toNat : Int) ((s[a]'hlt).toNat : Int) rs).n, .bool (Nib.rdVerb (Nib.cMk (-1) 1 false) ((s[a]'hlt).toNat : Int) ((s[a]'hlt).toNat : Int) rs).given, .int .u8 (Nib.rdVerb (Nib.cMk (-1) 1 false) ((s[a]'hlt).toNat : Int) ((s[a]'hlt).toNat : Int) rs).verb, .bool (Nib.rdVerb (Nib.cMk (-1) 1 false) ((s[a]'hlt).toNat : Int) ((s[a]'hlt).toNat : Int) rs).twice, .int .u8 (Nib.rdVerb (Nib.cMk (-1) 1 false) ((s[a]'hlt).toNat : Int) ((s[a]'hlt).toNat : Int) rs).object, .bool (Nib.rdVerb (Nib.cMk (-1) 1 false) ((s[a]'hlt).toNat : Int) ((s[a]'hlt).toNat : Int) rs).around, .int .u8 (Nib.rdVerb (Nib.cMk (-1) 1 false) ((s[a]'hlt).toNat : Int) ((s[a]'hlt).toNat : Int) rs).way, .int .u8 (Nib.rdVerb (Nib.cMk (-1) 1 false) ((s[a]'hlt).toNat : Int) ((s[a]'hlt).toNat : Int) rs).other, .int .u8 (Nib.rdVerb (Nib.cMk (-1) 1 false) ((s[a]'hlt).toNat : Int) ((s[a]'hlt).toNat : Int) rs).c]) (by simp [results, Tryz.results43, go_sem, h30]) rfl ⟨by rw [HZ.out], ?_⟩
        repeat (with_reducible first | exact Below.refl _ _ | refine b_s ?_ _ | refine b_a ?_ _ | refine Below.drew ?_ | refine below_drewN ?_ _ | refine b_t ?_ h3)
      | false =>
        rw [Hid, Nib.rdNorm, if_neg (by simp [hv])] at HN
        have HN' : Hid _ := HN
        clear HN
        by_cases hg : ((s[a]'hlt).toNat : Int) = 103
        · have hg' : (((s[a]'hlt).toNat : Int) == 103) = true := by simp [hg]
          have hr' : (((s[a]'hlt).toNat : Int) == 114) = false := by simp [hg]
          have h18 : (((s[a]'hlt).toNat : Int) == 18) = false := by simp [hg]
          by_cases hr0 : rs.size = 0
          · have hre := str_em hr0
            have HO : Hid (Nib.mem Nib.kOther ((s[a]'hlt).toNat : Int) = false) := by rw [Hid, hg]; decide +kernel
            have HZ : Hid (y = Nib.rdWay (Nib.cMk (-1) 1 false) ((s[a]'hlt).toNat : Int) rs) := by
              rw [Hid, HN'.out, if_neg (fun h => by omega), if_neg (by omega), if_neg (by rw [HO.out]; simp; omega)]
            have hot := HO.out
            clear HN' HO hg hr0
            go_wp2_with fail
            refine (in_any Nib.kOther _ _ (by decide)).mono ?_
            rintro e w' ⟨rfl, rfl⟩
            go_wp2_with fail
            refine (readWay_any (Nib.cMk (-1) 1 false) ((s[a]'hlt).toNat : Int) rs _).mono ?_
            rintro e w3 ⟨rfl, h3⟩
            obtain ⟨hc3, hf3⟩ := bcell h3
            have hz3 := h3.size
            try simp at hz3
            have h30 := fun o => hc3 w.heap.size o (by simp <;> omega)
            go_wp2
            refine bodyPost_ret (v := .agg #[.bool (Nib.rdWay (Nib.cMk (-1) 1 false) ((s[a]'hlt).toNat : Int) rs).more, .bool (Nib.rdWay (Nib.cMk (-1) 1 false) ((s[a]'hlt).toNat : Int) rs).bad, .int .i64 (Nib.rdWay (Nib.cMk (-1) 1 false) ((s[a]'hlt).toNat : Int) rs).reg, .int .i64 (Nib.rdWay (Nib.cMk (-1) 1 false) ((s[a]'hlt).toNat : Int) rs).n, .bool (Nib.rdWay (Nib.cMk (-1) 1 false) ((s[a]'hlt).toNat : Int) rs).given, .int .u8 (Nib.rdWay (Nib.cMk (-1) 1 false) ((s[a]'hlt).toNat : Int) rs).verb, .bool (Nib.rdWay (Nib.cMk (-1) 1 false) ((s[a]'hlt).toNat : Int) rs).twice, .int .u8 (Nib.rdWay (Nib.cMk (-1) 1 false) ((s[a]'hlt).toNat : Int) rs).object, .bool (Nib.rdWay (Nib.cMk (-1) 1 false) ((s[a]'hlt).toNat : Int) rs).around, .int .u8 (Nib.rdWay (Nib.cMk (-1) 1 false) ((s[a]'hlt).toNat : Int) rs).way, .int .u8 (Nib.rdWay (Nib.cMk (-1) 1 false) ((s[a]'hlt).toNat : Int) rs).other, .int .u8 (Nib.rdWay (Nib.cMk (-1) 1 false) ((s[a]'hlt).toNat : Int) rs).c]) (by simp [results, Tryz.results43, go_sem, h30]) rfl ⟨by rw [HZ.out], ?_⟩
            repeat (with_reducible first | exact Below.refl _ _ | refine b_s ?_ _ | refine b_a ?_ _ | refine Below.drew ?_ | refine below_drewN ?_ _ | refine b_t ?_ h3)
          · have hlr : 0 < rs.size := by omega
            have hne := str_ne hlr
            have hlr1 : (1 : Int) ≤ (rs.size : Int) := by omega
            have hlr2 : (0 : Int) < (rs.size : Int) := by omega
            by_cases hu : Nib.bt rs 0 = 117 ∨ Nib.bt rs 0 = 85
            · have HZ : Hid (y = Nib.rdVerb (Nib.cMk (-1) 1 false) ((rs[0]'hlr).toNat : Int) ((rs[0]'hlr).toNat : Int) (rs.extract 1 rs.size)) := by
                rw [Hid, HN'.out, if_pos ⟨hg, hlr, hu⟩, Nib.bt_in hlr]
              rw [Nib.bt_in hlr] at hu
              clear HN' hg hr0
              rcases hu with hu | hu
              · have hu1 : (((rs[0]'hlr).toNat : Int) == 117) = true := by simp [hu]
                clear hu
                have hcon := fun ww => readVerb_any (Nib.cMk (-1) 1 false) ((rs[0]'hlr).toNat : Int) ((rs[0]'hlr).toNat : Int) (rs.extract 1 rs.size) ww (by simp; omega) (by simp [Nib.cMk]) (by simp [Nib.cMk]; try omega)
                have HCN : Hid _ := hcon
                clear hcon
                go_wp2_with fail
                go_region_held3 (fun ww => ww.cell? ⟨w.heap.size + 1, 0, none⟩ = some (.bool false) ∧ ww.cell? ⟨w.heap.size + 1, 1, none⟩ = some (.bool false) ∧ ww.cell? ⟨w.heap.size + 1, 2, none⟩ = some (.int .i64 (-1)) ∧ ww.cell? ⟨w.heap.size + 1, 3, none⟩ = some (.int .i64 1) ∧ ww.cell? ⟨w.heap.size + 1, 4, none⟩ = some (.bool false) ∧ ww.cell? ⟨w.heap.size + 1, 5, none⟩ = some (.int .u8 0) ∧ ww.cell? ⟨w.heap.size + 1, 6, none⟩ = some (.bool false) ∧ ww.cell? ⟨w.heap.size + 1, 7, none⟩ = some (.int .u8 0) ∧ ww.cell? ⟨w.heap.size + 1, 8, none⟩ = some (.bool false) ∧ ww.cell? ⟨w.heap.size + 1, 9, none⟩ = some (.int .u8 0) ∧ ww.cell? ⟨w.heap.size + 1, 10, none⟩ = some (.int .u8 0) ∧ ww.cell? ⟨w.heap.size + 1, 11, none⟩ = some (.int .u8 0)) ((refine ⟨?_, ?_, ?_, ?_, ?_, ?_, ?_, ?_, ?_, ?_, ?_, ?_⟩ <;> go_simp)) ((go_at_call 58; refine (HCN.out _).mono ?_; rintro e w3 ⟨rfl, h3⟩; obtain ⟨hc3, hf3⟩ := bcell h3; have hz3 := h3.size; simp at hz3; have h30 := fun o => hc3 w.heap.size o (by simp <;> omega); have f30 := fun o => hf3 w.heap.size o (by simp <;> omega)))
                all_goals
                  go_wp2
                  refine bodyPost_ret (v := .agg #[.bool (Nib.rdVerb (Nib.cMk (-1) 1 false) ((rs[0]'hlr).toNat : Int) ((rs[0]'hlr).toNat : Int) (rs.extract 1 rs.size)).more, .bool (Nib.rdVerb (Nib.cMk (-1) 1 false) ((rs[0]'hlr).toNat : Int) ((rs[0]'hlr).toNat : Int) (rs.extract 1 rs.size)).bad, .int .i64 (Nib.rdVerb (Nib.cMk (-1) 1 false) ((rs[0]'hlr).toNat : Int) ((rs[0]'hlr).toNat : Int) (rs.extract 1 rs.size)).reg, .int .i64 (Nib.rdVerb (Nib.cMk (-1) 1 false) ((rs[0]'hlr).toNat : Int) ((rs[0]'hlr).toNat : Int) (rs.extract 1 rs.size)).n, .bool (Nib.rdVerb (Nib.cMk (-1) 1 false) ((rs[0]'hlr).toNat : Int) ((rs[0]'hlr).toNat : Int) (rs.extract 1 rs.size)).given, .int .u8 (Nib.rdVerb (Nib.cMk (-1) 1 false) ((rs[0]'hlr).toNat : Int) ((rs[0]'hlr).toNat : Int) (rs.extract 1 rs.size)).verb, .bool (Nib.rdVerb (Nib.cMk (-1) 1 false) ((rs[0]'hlr).toNat : Int) ((rs[0]'hlr).toNat : Int) (rs.extract 1 rs.size)).twice, .int .u8 (Nib.rdVerb (Nib.cMk (-1) 1 false) ((rs[0]'hlr).toNat : Int) ((rs[0]'hlr).toNat : Int) (rs.extract 1 rs.size)).object, .bool (Nib.rdVerb (Nib.cMk (-1) 1 false) ((rs[0]'hlr).toNat : Int) ((rs[0]'hlr).toNat : Int) (rs.extract 1 rs.size)).around, .int .u8 (Nib.rdVerb (Nib.cMk (-1) 1 false) ((rs[0]'hlr).toNat : Int) ((rs[0]'hlr).toNat : Int) (rs.extract 1 rs.size)).way, .int .u8 (Nib.rdVerb (Nib.cMk (-1) 1 false) ((rs[0]'hlr).toNat : Int) ((rs[0]'hlr).toNat : Int) (rs.extract 1 rs.size)).other, .int .u8 (Nib.rdVerb (Nib.cMk (-1) 1 false) ((rs[0]'hlr).toNat : Int) ((rs[0]'hlr).toNat : Int) (rs.extract 1 rs.size)).c]) (by simp [results, Tryz.results43, go_sem, h30]) rfl ⟨by rw [HZ.out], ?_⟩
                  repeat (with_reducible first | exact Below.refl _ _ | refine b_s ?_ _ | refine b_a ?_ _ | refine Below.drew ?_ | refine below_drewN ?_ _ | refine b_t ?_ h3)
              · have hu1 : (((rs[0]'hlr).toNat : Int) == 117) = false := by simp [hu]
                have hu2 : (((rs[0]'hlr).toNat : Int) == 85) = true := by simp [hu]
                clear hu
                have hcon := fun ww => readVerb_any (Nib.cMk (-1) 1 false) ((rs[0]'hlr).toNat : Int) ((rs[0]'hlr).toNat : Int) (rs.extract 1 rs.size) ww (by simp; omega) (by simp [Nib.cMk]) (by simp [Nib.cMk]; try omega)
                have HCN : Hid _ := hcon
                clear hcon
                go_wp2_with fail
                go_region_held3 (fun ww => ww.cell? ⟨w.heap.size + 1, 0, none⟩ = some (.bool false) ∧ ww.cell? ⟨w.heap.size + 1, 1, none⟩ = some (.bool false) ∧ ww.cell? ⟨w.heap.size + 1, 2, none⟩ = some (.int .i64 (-1)) ∧ ww.cell? ⟨w.heap.size + 1, 3, none⟩ = some (.int .i64 1) ∧ ww.cell? ⟨w.heap.size + 1, 4, none⟩ = some (.bool false) ∧ ww.cell? ⟨w.heap.size + 1, 5, none⟩ = some (.int .u8 0) ∧ ww.cell? ⟨w.heap.size + 1, 6, none⟩ = some (.bool false) ∧ ww.cell? ⟨w.heap.size + 1, 7, none⟩ = some (.int .u8 0) ∧ ww.cell? ⟨w.heap.size + 1, 8, none⟩ = some (.bool false) ∧ ww.cell? ⟨w.heap.size + 1, 9, none⟩ = some (.int .u8 0) ∧ ww.cell? ⟨w.heap.size + 1, 10, none⟩ = some (.int .u8 0) ∧ ww.cell? ⟨w.heap.size + 1, 11, none⟩ = some (.int .u8 0)) ((refine ⟨?_, ?_, ?_, ?_, ?_, ?_, ?_, ?_, ?_, ?_, ?_, ?_⟩ <;> go_simp)) ((go_at_call 58; refine (HCN.out _).mono ?_; rintro e w3 ⟨rfl, h3⟩; obtain ⟨hc3, hf3⟩ := bcell h3; have hz3 := h3.size; simp at hz3; have h30 := fun o => hc3 w.heap.size o (by simp <;> omega); have f30 := fun o => hf3 w.heap.size o (by simp <;> omega)))
                all_goals
                  go_wp2
                  refine bodyPost_ret (v := .agg #[.bool (Nib.rdVerb (Nib.cMk (-1) 1 false) ((rs[0]'hlr).toNat : Int) ((rs[0]'hlr).toNat : Int) (rs.extract 1 rs.size)).more, .bool (Nib.rdVerb (Nib.cMk (-1) 1 false) ((rs[0]'hlr).toNat : Int) ((rs[0]'hlr).toNat : Int) (rs.extract 1 rs.size)).bad, .int .i64 (Nib.rdVerb (Nib.cMk (-1) 1 false) ((rs[0]'hlr).toNat : Int) ((rs[0]'hlr).toNat : Int) (rs.extract 1 rs.size)).reg, .int .i64 (Nib.rdVerb (Nib.cMk (-1) 1 false) ((rs[0]'hlr).toNat : Int) ((rs[0]'hlr).toNat : Int) (rs.extract 1 rs.size)).n, .bool (Nib.rdVerb (Nib.cMk (-1) 1 false) ((rs[0]'hlr).toNat : Int) ((rs[0]'hlr).toNat : Int) (rs.extract 1 rs.size)).given, .int .u8 (Nib.rdVerb (Nib.cMk (-1) 1 false) ((rs[0]'hlr).toNat : Int) ((rs[0]'hlr).toNat : Int) (rs.extract 1 rs.size)).verb, .bool (Nib.rdVerb (Nib.cMk (-1) 1 false) ((rs[0]'hlr).toNat : Int) ((rs[0]'hlr).toNat : Int) (rs.extract 1 rs.size)).twice, .int .u8 (Nib.rdVerb (Nib.cMk (-1) 1 false) ((rs[0]'hlr).toNat : Int) ((rs[0]'hlr).toNat : Int) (rs.extract 1 rs.size)).object, .bool (Nib.rdVerb (Nib.cMk (-1) 1 false) ((rs[0]'hlr).toNat : Int) ((rs[0]'hlr).toNat : Int) (rs.extract 1 rs.size)).around, .int .u8 (Nib.rdVerb (Nib.cMk (-1) 1 false) ((rs[0]'hlr).toNat : Int) ((rs[0]'hlr).toNat : Int) (rs.extract 1 rs.size)).way, .int .u8 (Nib.rdVerb (Nib.cMk (-1) 1 false) ((rs[0]'hlr).toNat : Int) ((rs[0]'hlr).toNat : Int) (rs.extract 1 rs.size)).other, .int .u8 (Nib.rdVerb (Nib.cMk (-1) 1 false) ((rs[0]'hlr).toNat : Int) ((rs[0]'hlr).toNat : Int) (rs.extract 1 rs.size)).c]) (by simp [results, Tryz.results43, go_sem, h30]) rfl ⟨by rw [HZ.out], ?_⟩
                  repeat (with_reducible first | exact Below.refl _ _ | refine b_s ?_ _ | refine b_a ?_ _ | refine Below.drew ?_ | refine below_drewN ?_ _ | refine b_t ?_ h3)
            · have HO : Hid (Nib.mem Nib.kOther ((s[a]'hlt).toNat : Int) = false) := by rw [Hid, hg]; decide +kernel
              have HZ : Hid (y = Nib.rdWay (Nib.cMk (-1) 1 false) ((s[a]'hlt).toNat : Int) rs) := by
                rw [Hid, HN'.out, if_neg (fun h => hu h.2.2), if_neg (by omega), if_neg (by rw [HO.out]; simp; omega)]
              have hot := HO.out
              rw [Nib.bt_in hlr] at hu
              have hu1 : (((rs[0]'hlr).toNat : Int) == 117) = false := by simp; omega
              have hu2 : (((rs[0]'hlr).toNat : Int) == 85) = false := by simp; omega
              clear HN' HO hg hr0 hu
              go_wp2_with fail
              refine (in_any Nib.kOther _ _ (by decide)).mono ?_
              rintro e w' ⟨rfl, rfl⟩
              go_wp2_with fail
              refine (readWay_any (Nib.cMk (-1) 1 false) ((s[a]'hlt).toNat : Int) rs _).mono ?_
              rintro e w3 ⟨rfl, h3⟩
              obtain ⟨hc3, hf3⟩ := bcell h3
              have hz3 := h3.size
              try simp at hz3
              have h30 := fun o => hc3 w.heap.size o (by simp <;> omega)
              go_wp2
              refine bodyPost_ret (v := .agg #[.bool (Nib.rdWay (Nib.cMk (-1) 1 false) ((s[a]'hlt).toNat : Int) rs).more, .bool (Nib.rdWay (Nib.cMk (-1) 1 false) ((s[a]'hlt).toNat : Int) rs).bad, .int .i64 (Nib.rdWay (Nib.cMk (-1) 1 false) ((s[a]'hlt).toNat : Int) rs).reg, .int .i64 (Nib.rdWay (Nib.cMk (-1) 1 false) ((s[a]'hlt).toNat : Int) rs).n, .bool (Nib.rdWay (Nib.cMk (-1) 1 false) ((s[a]'hlt).toNat : Int) rs).given, .int .u8 (Nib.rdWay (Nib.cMk (-1) 1 false) ((s[a]'hlt).toNat : Int) rs).verb, .bool (Nib.rdWay (Nib.cMk (-1) 1 false) ((s[a]'hlt).toNat : Int) rs).twice, .int .u8 (Nib.rdWay (Nib.cMk (-1) 1 false) ((s[a]'hlt).toNat : Int) rs).object, .bool (Nib.rdWay (Nib.cMk (-1) 1 false) ((s[a]'hlt).toNat : Int) rs).around, .int .u8 (Nib.rdWay (Nib.cMk (-1) 1 false) ((s[a]'hlt).toNat : Int) rs).way, .int .u8 (Nib.rdWay (Nib.cMk (-1) 1 false) ((s[a]'hlt).toNat : Int) rs).other, .int .u8 (Nib.rdWay (Nib.cMk (-1) 1 false) ((s[a]'hlt).toNat : Int) rs).c]) (by simp [results, Tryz.results43, go_sem, h30]) rfl ⟨by rw [HZ.out], ?_⟩
              repeat (with_reducible first | exact Below.refl _ _ | refine b_s ?_ _ | refine b_a ?_ _ | refine Below.drew ?_ | refine below_drewN ?_ _ | refine b_t ?_ h3)
        · have hg' : (((s[a]'hlt).toNat : Int) == 103) = false := by simp [hg]
          rw [Hid, if_neg (fun h => hg h.1)] at HN'
          have HN2 : Hid _ := HN'
          clear HN' hg
          by_cases hr : ((s[a]'hlt).toNat : Int) = 114
          · have hr' : (((s[a]'hlt).toNat : Int) == 114) = true := by simp [hr]
            by_cases hr0 : rs.size = 0
            · have hre := str_em hr0
              have HZ : Hid (y = Nib.cMore) := by rw [Hid, HN2.out, if_pos hr, if_pos hr0]
              clear HN2 hr hr0
              go_wp2_with fail
              refine (more_any _).mono ?_
              rintro e w3 ⟨rfl, h3⟩
              obtain ⟨hc3, hf3⟩ := bcell h3
              have hz3 := h3.size
              try simp at hz3
              have h30 := fun o => hc3 w.heap.size o (by simp <;> omega)
              go_wp2
              refine bodyPost_ret (v := .agg #[.bool Nib.cMore.more, .bool Nib.cMore.bad, .int .i64 Nib.cMore.reg, .int .i64 Nib.cMore.n, .bool Nib.cMore.given, .int .u8 Nib.cMore.verb, .bool Nib.cMore.twice, .int .u8 Nib.cMore.object, .bool Nib.cMore.around, .int .u8 Nib.cMore.way, .int .u8 Nib.cMore.other, .int .u8 Nib.cMore.c]) (by simp [results, Tryz.results43, go_sem, h30]) rfl ⟨by rw [HZ.out], ?_⟩
              repeat (with_reducible first | exact Below.refl _ _ | refine b_s ?_ _ | refine b_a ?_ _ | refine Below.drew ?_ | refine below_drewN ?_ _ | refine b_t ?_ h3)
            · have hlr : 0 < rs.size := by omega
              have hne := str_ne hlr
              have HZ : Hid (y = Nib.cOC (Nib.cMk (-1) 1 false) ((s[a]'hlt).toNat : Int) ((rs[0]'hlr).toNat : Int)) := by rw [Hid, HN2.out, if_pos hr, if_neg hr0, Nib.bt_in hlr]
              clear HN2 hr hr0
              go_wp2
              refine bodyPost_ret (v := .agg #[.bool (Nib.cOC (Nib.cMk (-1) 1 false) ((s[a]'hlt).toNat : Int) ((rs[0]'hlr).toNat : Int)).more, .bool (Nib.cOC (Nib.cMk (-1) 1 false) ((s[a]'hlt).toNat : Int) ((rs[0]'hlr).toNat : Int)).bad, .int .i64 (Nib.cOC (Nib.cMk (-1) 1 false) ((s[a]'hlt).toNat : Int) ((rs[0]'hlr).toNat : Int)).reg, .int .i64 (Nib.cOC (Nib.cMk (-1) 1 false) ((s[a]'hlt).toNat : Int) ((rs[0]'hlr).toNat : Int)).n, .bool (Nib.cOC (Nib.cMk (-1) 1 false) ((s[a]'hlt).toNat : Int) ((rs[0]'hlr).toNat : Int)).given, .int .u8 (Nib.cOC (Nib.cMk (-1) 1 false) ((s[a]'hlt).toNat : Int) ((rs[0]'hlr).toNat : Int)).verb, .bool (Nib.cOC (Nib.cMk (-1) 1 false) ((s[a]'hlt).toNat : Int) ((rs[0]'hlr).toNat : Int)).twice, .int .u8 (Nib.cOC (Nib.cMk (-1) 1 false) ((s[a]'hlt).toNat : Int) ((rs[0]'hlr).toNat : Int)).object, .bool (Nib.cOC (Nib.cMk (-1) 1 false) ((s[a]'hlt).toNat : Int) ((rs[0]'hlr).toNat : Int)).around, .int .u8 (Nib.cOC (Nib.cMk (-1) 1 false) ((s[a]'hlt).toNat : Int) ((rs[0]'hlr).toNat : Int)).way, .int .u8 (Nib.cOC (Nib.cMk (-1) 1 false) ((s[a]'hlt).toNat : Int) ((rs[0]'hlr).toNat : Int)).other, .int .u8 (Nib.cOC (Nib.cMk (-1) 1 false) ((s[a]'hlt).toNat : Int) ((rs[0]'hlr).toNat : Int)).c]) (by simp [results, Tryz.results43, go_sem, Nib.cOC, Nib.cMk]) rfl ⟨by rw [HZ.out], ?_⟩
              repeat (with_reducible first | exact Below.refl _ _ | refine b_s ?_ _ | refine b_a ?_ _ | refine Below.drew ?_ | refine below_drewN ?_ _)
          · have hr' : (((s[a]'hlt).toNat : Int) == 114) = false := by simp [hr]
            rw [Hid, if_neg hr] at HN2
            have HN3 : Hid _ := HN2
            clear HN2 hr
            go_wp2_with fail
            refine (in_any Nib.kOther _ _ (by decide)).mono ?_
            rintro e w' ⟨rfl, rfl⟩
            cases hot : Nib.mem Nib.kOther ((s[a]'hlt).toNat : Int) with
            | true =>
              have HZ : Hid (y = Nib.cO (Nib.cMk (-1) 1 false) ((s[a]'hlt).toNat : Int)) := by rw [Hid, HN3.out, if_pos (Or.inl hot)]
              clear HN3
              go_wp2
              refine bodyPost_ret (v := .agg #[.bool (Nib.cO (Nib.cMk (-1) 1 false) ((s[a]'hlt).toNat : Int)).more, .bool (Nib.cO (Nib.cMk (-1) 1 false) ((s[a]'hlt).toNat : Int)).bad, .int .i64 (Nib.cO (Nib.cMk (-1) 1 false) ((s[a]'hlt).toNat : Int)).reg, .int .i64 (Nib.cO (Nib.cMk (-1) 1 false) ((s[a]'hlt).toNat : Int)).n, .bool (Nib.cO (Nib.cMk (-1) 1 false) ((s[a]'hlt).toNat : Int)).given, .int .u8 (Nib.cO (Nib.cMk (-1) 1 false) ((s[a]'hlt).toNat : Int)).verb, .bool (Nib.cO (Nib.cMk (-1) 1 false) ((s[a]'hlt).toNat : Int)).twice, .int .u8 (Nib.cO (Nib.cMk (-1) 1 false) ((s[a]'hlt).toNat : Int)).object, .bool (Nib.cO (Nib.cMk (-1) 1 false) ((s[a]'hlt).toNat : Int)).around, .int .u8 (Nib.cO (Nib.cMk (-1) 1 false) ((s[a]'hlt).toNat : Int)).way, .int .u8 (Nib.cO (Nib.cMk (-1) 1 false) ((s[a]'hlt).toNat : Int)).other, .int .u8 (Nib.cO (Nib.cMk (-1) 1 false) ((s[a]'hlt).toNat : Int)).c]) (by simp [results, Tryz.results43, go_sem, Nib.cO, Nib.cMk]) rfl ⟨by rw [HZ.out], ?_⟩
              repeat (with_reducible first | exact Below.refl _ _ | refine b_s ?_ _ | refine b_a ?_ _ | refine Below.drew ?_ | refine below_drewN ?_ _)
            | false =>
              by_cases h18 : ((s[a]'hlt).toNat : Int) = 18
              · have h18' : (((s[a]'hlt).toNat : Int) == 18) = true := by simp [h18]
                have HZ : Hid (y = Nib.cO (Nib.cMk (-1) 1 false) ((s[a]'hlt).toNat : Int)) := by rw [Hid, HN3.out, if_pos (Or.inr h18)]
                clear HN3 h18
                go_wp2
                refine bodyPost_ret (v := .agg #[.bool (Nib.cO (Nib.cMk (-1) 1 false) ((s[a]'hlt).toNat : Int)).more, .bool (Nib.cO (Nib.cMk (-1) 1 false) ((s[a]'hlt).toNat : Int)).bad, .int .i64 (Nib.cO (Nib.cMk (-1) 1 false) ((s[a]'hlt).toNat : Int)).reg, .int .i64 (Nib.cO (Nib.cMk (-1) 1 false) ((s[a]'hlt).toNat : Int)).n, .bool (Nib.cO (Nib.cMk (-1) 1 false) ((s[a]'hlt).toNat : Int)).given, .int .u8 (Nib.cO (Nib.cMk (-1) 1 false) ((s[a]'hlt).toNat : Int)).verb, .bool (Nib.cO (Nib.cMk (-1) 1 false) ((s[a]'hlt).toNat : Int)).twice, .int .u8 (Nib.cO (Nib.cMk (-1) 1 false) ((s[a]'hlt).toNat : Int)).object, .bool (Nib.cO (Nib.cMk (-1) 1 false) ((s[a]'hlt).toNat : Int)).around, .int .u8 (Nib.cO (Nib.cMk (-1) 1 false) ((s[a]'hlt).toNat : Int)).way, .int .u8 (Nib.cO (Nib.cMk (-1) 1 false) ((s[a]'hlt).toNat : Int)).other, .int .u8 (Nib.cO (Nib.cMk (-1) 1 false) ((s[a]'hlt).toNat : Int)).c]) (by simp [results, Tryz.results43, go_sem, Nib.cO, Nib.cMk]) rfl ⟨by rw [HZ.out], ?_⟩
                repeat (with_reducible first | exact Below.refl _ _ | refine b_s ?_ _ | refine b_a ?_ _ | refine Below.drew ?_ | refine below_drewN ?_ _)
              · have h18' : (((s[a]'hlt).toNat : Int) == 18) = false := by simp [h18]
                have HZ : Hid (y = Nib.rdWay (Nib.cMk (-1) 1 false) ((s[a]'hlt).toNat : Int) rs) := by rw [Hid, HN3.out, if_neg (by rw [hot]; simp [h18])]
                clear HN3 h18
                go_wp2_with fail
                refine (readWay_any (Nib.cMk (-1) 1 false) ((s[a]'hlt).toNat : Int) rs _).mono ?_
                rintro e w3 ⟨rfl, h3⟩
                obtain ⟨hc3, hf3⟩ := bcell h3
                have hz3 := h3.size
                try simp at hz3
                have h30 := fun o => hc3 w.heap.size o (by simp <;> omega)
                go_wp2
                refine bodyPost_ret (v := .agg #[.bool (Nib.rdWay (Nib.cMk (-1) 1 false) ((s[a]'hlt).toNat : Int) rs).more, .bool (Nib.rdWay (Nib.cMk (-1) 1 false) ((s[a]'hlt).toNat : Int) rs).bad, .int .i64 (Nib.rdWay (Nib.cMk (-1) 1 false) ((s[a]'hlt).toNat : Int) rs).reg, .int .i64 (Nib.rdWay (Nib.cMk (-1) 1 false) ((s[a]'hlt).toNat : Int) rs).n, .bool (Nib.rdWay (Nib.cMk (-1) 1 false) ((s[a]'hlt).toNat : Int) rs).given, .int .u8 (Nib.rdWay (Nib.cMk (-1) 1 false) ((s[a]'hlt).toNat : Int) rs).verb, .bool (Nib.rdWay (Nib.cMk (-1) 1 false) ((s[a]'hlt).toNat : Int) rs).twice, .int .u8 (Nib.rdWay (Nib.cMk (-1) 1 false) ((s[a]'hlt).toNat : Int) rs).object, .bool (Nib.rdWay (Nib.cMk (-1) 1 false) ((s[a]'hlt).toNat : Int) rs).around, .int .u8 (Nib.rdWay (Nib.cMk (-1) 1 false) ((s[a]'hlt).toNat : Int) rs).way, .int .u8 (Nib.rdWay (Nib.cMk (-1) 1 false) ((s[a]'hlt).toNat : Int) rs).other, .int .u8 (Nib.rdWay (Nib.cMk (-1) 1 false) ((s[a]'hlt).toNat : Int) rs).c]) (by simp [results, Tryz.results43, go_sem, h30]) rfl ⟨by rw [HZ.out], ?_⟩
                repeat (with_reducible first | exact Below.refl _ _ | refine b_s ?_ _ | refine b_a ?_ _ | refine Below.drew ?_ | refine below_drewN ?_ _ | refine b_t ?_ h3)
end Go.Proofs.YtlendfhehhacpaaGreat
