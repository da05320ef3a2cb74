/- Joined of the texts LawC, TextN, LawD. -/
import Derived.Test.YtlendfhehhacpaaGreatP46
import Derived.Test.YtlendfhehhacpaaGreatP25
import Derived.Test.YtlendfhehhacpaaGreatP45
set_option linter.unusedVariables false
set_option linter.unusedSimpArgs false
set_option maxRecDepth 100000
set_option maxHeartbeats 8000000
namespace Go.Proofs.YtlendfhehhacpaaGreat
open Go.RowKit
def AnyOk : Prop := ∀ (s : ByteArray) (p : Nat), s.size ≤ 1000 → p ≤ s.size →
  Hid (∀ ww, Calls Tryz.prog 254 #[.string (s.extract p (Nib.fin s p)), .string ⟨#[40, 41, 91, 93, 123, 125]⟩] ww fun e w' => e = .returned (.int .i64 (brkAt s p)) ∧ Below ww.heap.size ww w')
structure Good (m : Nat) (e : Nib.Ed) (p : Pg) : Prop where
  ts : e.t.size ≤ 1000
  ps : e.p ≤ e.t.size
  st : e.p ≤ Nib.lst e.t e.p
  md : e.mode = 0 ∨ e.mode = 2 ∨ e.mode = 3
  fo : findOk e
  rs : e.regS = fun _ => ⟨#[]⟩
  rl : e.regL = fun _ => false
  t : p.t = e.t
  pl : p.pl = e.p
  an : p.anchor = if e.mode = 0 then 0 else e.anchor
  mo : p.mode = e.mode
  rg : p.regs = .map (some m)
  nw : p.now = e.t
  fd : p.fnd = e.find
  fc : p.findC = e.findC
  r0 : p.reg = 0
  v0 : p.verb = 0
  b0 : p.behind = 0
  bg : Nib.Beg e.keys p.n p.part
def RefKey (u : UInt8) (e e2 : Nib.Ed) (f : Nat) : Prop := ∀ b dv uv ww, EdAt ww b e dv uv → e.keys.size ≤ lim →
  Calls Tryz.prog 35 #[.pointer (some ⟨b, 0, none⟩), .int .u8 u.toNat] ww fun r w' => r = .returned (.int .i64 f) ∧ EdAt w' b e2 dv uv ∧ Upd [b] ww w'
structure Step (m : Nat) (u : UInt8) (e : Nib.Ed) (p : Pg) (e2 : Nib.Ed) (p2 : Pg) (O : Int) : Prop where
  ref : RefKey u e e2 (if O = 4 then 1 else 0)
  prog : ProgKey u.toNat p p2 O
  good : Good m e2 p2
  ks : e2.keys.size ≤ e.keys.size + 1
theorem lim_eq : lim = 17592186044416 := rfl
theorem good_none {m : Nat} {e : Nib.Ed} {p : Pg} (h : Good m e p) : Good m { e with keys := ⟨#[]⟩ } p.none' :=
  ⟨h.ts, h.ps, h.st, h.md, h.fo, h.rs, h.rl, h.t, h.pl, h.an, h.mo, h.rg, h.nw, h.fd, h.fc, rfl, rfl, rfl, Nib.beg_nil⟩
section
variable {m : Nat} {u : UInt8} {e : Nib.Ed} {p : Pg}
theorem step_esc (h : Good m e p) (hu : (u.toNat : Int) = 27) : Step m u e p { e with keys := ⟨#[]⟩, mode := 0 } { p.none' with mode := 0, anchor := 0 } 1 := by
  refine ⟨?_, ?_, ?_, Nat.zero_le _⟩
  · intro b dv uv ww hE hk
    have := key_esc b e dv uv ww hE (by have := h.md; omega)
    rw [hu]
    exact this
  · rw [hu]
    exact prog_esc (by rw [h.mo]; exact h.md) (by rw [h.nw, h.t])
  · exact ⟨h.ts, h.ps, h.st, Or.inl rfl, h.fo, h.rs, h.rl, h.t, h.pl, rfl, rfl, h.rg, h.nw, h.fd, h.fc, rfl, rfl, rfl, Nib.beg_nil⟩
theorem ne1 (h : Good m e p) : ¬ e.mode = 1 := by have := h.md; omega
theorem step_more {p2 : Pg} (h : Good m e p) (hu : ¬ (u.toNat : Int) = 27) (hr : Nib.rd (e.keys ++ ⟨#[u]⟩) (e.mode != 0) = Nib.cMore) (hg : Good m { e with keys := e.keys ++ ⟨#[u]⟩ } p2)
    (hN : p.mode = 0 → TakeN u.toNat p p2 0) (hM : p.mode = 2 ∨ p.mode = 3 → TakeM u.toNat p p2 0) : Step m u e p { e with keys := e.keys ++ ⟨#[u]⟩ } p2 0 := by
  refine ⟨?_, prog_more hu (by rw [h.mo]; exact h.md) hN hM, hg, ?_⟩
  · intro b dv uv ww hE hk
    exact key_more b e u dv uv ww hE (ne1 h) hu hk (by rw [hr]; rfl)
  · simp only [ByteArray.size_append]
    exact Nat.le_refl _
theorem step_bad (h : Good m e p) (hu : ¬ (u.toNat : Int) = 27) (hr : Nib.rd (e.keys ++ ⟨#[u]⟩) (e.mode != 0) = Nib.cBad)
    (hN : p.mode = 0 → TakeN u.toNat p p 4) (hM : p.mode = 2 ∨ p.mode = 3 → TakeM u.toNat p p 4) : Step m u e p { e with keys := ⟨#[]⟩ } p.none' 4 := by
  refine ⟨?_, prog_done hu (Or.inr rfl) (by rw [h.mo]; exact h.md) (by rw [h.mo]; exact ne1 h) (by rw [h.nw, h.t]) hN hM, good_none h, Nat.zero_le _⟩
  intro b dv uv ww hE hk
  exact key_bad b e u dv uv ww hE (ne1 h) hu hk (by rw [hr]; rfl) (by rw [hr]; rfl)
theorem step_does {e2 : Nib.Ed} {p2 : Pg} {x : Nib.Cmd} {ok : Bool} (h : Good m e p) (hu : ¬ (u.toNat : Int) = 27) (hr : Nib.rd (e.keys ++ ⟨#[u]⟩) (e.mode != 0) = x) (hx : x.more = false) (hx2 : x.bad = false) (hv : x.verb = 0) (ho : x.other = 0 ∨ x.other = 118 ∨ x.other = 86)
    (ht : e2.t = e.t) (hm2 : ¬ e2.mode = 1) (hk2 : e2.keys = ⟨#[]⟩)
    (HN : e.mode = 0 → ∀ b dv uv ww, EdAt ww b { e with keys := ⟨#[]⟩ } dv uv → Calls Tryz.prog 62 #[.pointer (some ⟨b, 0, none⟩), .agg #[.bool x.more, .bool x.bad, .int .i64 x.reg, .int .i64 x.n, .bool x.given, .int .u8 x.verb, .bool x.twice, .int .u8 x.object, .bool x.around, .int .u8 x.way, .int .u8 x.other, .int .u8 x.c]] ww fun r w' => r = .returned (.bool ok) ∧ EdAt w' b e2 dv uv ∧ Upd [b] ww w')
    (HM : e.mode = 2 ∨ e.mode = 3 → ∀ b dv uv ww, EdAt ww b { e with keys := ⟨#[]⟩ } dv uv → Calls Tryz.prog 60 #[.pointer (some ⟨b, 0, none⟩), .agg #[.bool x.more, .bool x.bad, .int .i64 x.reg, .int .i64 x.n, .bool x.given, .int .u8 x.verb, .bool x.twice, .int .u8 x.object, .bool x.around, .int .u8 x.way, .int .u8 x.other, .int .u8 x.c]] ww fun r w' => r = .returned (.bool ok) ∧ EdAt w' b e2 dv uv ∧ Upd [b] ww w')
    (hg : Good m e2 p2.none') (hN : p.mode = 0 → TakeN u.toNat p p2 (if ok = true then 1 else 4)) (hM : p.mode = 2 ∨ p.mode = 3 → TakeM u.toNat p p2 (if ok = true then 1 else 4)) :
    Step m u e p e2 p2.none' (if ok = true then 1 else 4) := by
  refine ⟨?_, prog_done hu (by split <;> simp) (by rw [h.mo]; exact h.md) ?_ ?_ hN hM, hg, by rw [hk2]; exact Nat.zero_le _⟩
  · intro b dv uv ww hE hk
    have hD : ∀ ww, EdAt ww b { e with keys := ⟨#[]⟩ } dv uv → Calls Tryz.prog 44 #[.pointer (some ⟨b, 0, none⟩), .agg #[.bool (Nib.rd (e.keys ++ ⟨#[u]⟩) (e.mode != 0)).more, .bool (Nib.rd (e.keys ++ ⟨#[u]⟩) (e.mode != 0)).bad, .int .i64 (Nib.rd (e.keys ++ ⟨#[u]⟩) (e.mode != 0)).reg, .int .i64 (Nib.rd (e.keys ++ ⟨#[u]⟩) (e.mode != 0)).n, .bool (Nib.rd (e.keys ++ ⟨#[u]⟩) (e.mode != 0)).given, .int .u8 (Nib.rd (e.keys ++ ⟨#[u]⟩) (e.mode != 0)).verb, .bool (Nib.rd (e.keys ++ ⟨#[u]⟩) (e.mode != 0)).twice, .int .u8 (Nib.rd (e.keys ++ ⟨#[u]⟩) (e.mode != 0)).object, .bool (Nib.rd (e.keys ++ ⟨#[u]⟩) (e.mode != 0)).around, .int .u8 (Nib.rd (e.keys ++ ⟨#[u]⟩) (e.mode != 0)).way, .int .u8 (Nib.rd (e.keys ++ ⟨#[u]⟩) (e.mode != 0)).other, .int .u8 (Nib.rd (e.keys ++ ⟨#[u]⟩) (e.mode != 0)).c], .string (e.keys ++ ⟨#[u]⟩)] ww fun r w' => r = .returned (.int .i64 (if ok = true then 0 else 1)) ∧ EdAt w' b e2 dv uv ∧ Upd [b] ww w' := by
      intro w2 hE2
      rw [hr]
      rcases h.md with hm | hm
      · exact does_quiet b { e with keys := ⟨#[]⟩ } e2 x _ ok dv uv w2 hE2 hm hv (plain_of ho) (by rcases ho with ho | ho | ho <;> rw [ho] <;> decide) hm2 ht (HN hm b dv uv)
      · exact does_marked b { e with keys := ⟨#[]⟩ } e2 x _ ok dv uv w2 hE2 (by show ¬ e.mode = 0; omega) (HM hm b dv uv)
    have hq := key_does b e u dv uv ww hE (ne1 h) hu hk _ e2 (by rw [hr]; exact hx) (by rw [hr]; exact hx2) hD
    refine Calls.mono hq ?_
    rintro r w' ⟨rfl, h1, h2⟩
    refine ⟨?_, h1, h2⟩
    cases ok <;> rfl
  · have := hg.mo
    show ¬ p2.mode = 1
    rw [show p2.mode = e2.mode from this]
    exact hm2
  · have h1 := hg.nw
    have h2 := hg.t
    show p2.now = p2.t
    rw [show p2.now = e2.t from h1, show p2.t = e2.t from h2]
end
end Go.Proofs.YtlendfhehhacpaaGreat
namespace Go.Proofs.YtlendfhehhacpaaGreat
open Go.RowKit Go.Shelf
def rowBr (k : Nat) : Bool := (Nib.prt (k : Int) == 0) == !(kBr.data.toList.contains (UInt8.ofNat k))
theorem rowBr_all : ∀ k : Nat, k < 256 → rowBr k = true := by decide +kernel
theorem br_iff (u : UInt8) : (Nib.prt (u.toNat : Int) == 0) = !(kBr.data.toList.contains u) := by
  have h := rowBr_all u.toNat u.toNat_lt
  simp only [rowBr, beq_iff_eq] at h
  rw [h]
  simp
theorem ext_get {s : ByteArray} {a b j : Nat} (hb : b ≤ s.size) (h : a + j < b) : ∃ (h1 : j < (s.extract a b).size) (h2 : a + j < s.size), (s.extract a b)[j]'h1 = s[a + j]'h2 :=
  ⟨by rw [ByteArray.size_extract]; omega, by omega, ByteArray.getElem_extract ..⟩
theorem indexAny_brk (s : ByteArray) (p : Nat) (hp : p ≤ s.size) : Lib.indexAny (s.extract p (Nib.fin s p)).data.toList kBr.data.toList = brkAt s p := by
  have hf := Nib.fin_le hp
  have hg := Nib.fin_ge s p
  have hXs : (s.extract p (Nib.fin s p)).size = Nib.fin s p - p := by rw [ByteArray.size_extract]; omega
  have hu1 := Nib.up_ge (Nib.nobr s) (Nib.fin s p) p
  have hu2 := Nib.up_le (c := Nib.nobr s) (n := Nib.fin s p) (p := p) hg
  have hno : ∀ i, p + i ≤ Nib.up (Nib.nobr s) (Nib.fin s p) p → Lib.NoAny (s.extract p (Nib.fin s p)).data.toList kBr.data.toList i := by
    intro i hi j b hj hb
    have hjs : j < (s.extract p (Nib.fin s p)).size := by
      have := (List.getElem?_eq_some_iff.1 hb).1
      rw [Array.length_toList] at this; exact this
    obtain ⟨h1, h2, e⟩ := ext_get (s := s) (a := p) (b := Nib.fin s p) (j := j) hf (by omega)
    have hbe : (s.extract p (Nib.fin s p))[j]'h1 = b := by
      have := (List.getElem?_eq_some_iff.1 hb).2
      rw [← this]
      simp [ByteArray.getElem_eq_getElem_data]
    rw [e] at hbe
    have hn := Nib.up_all (c := Nib.nobr s) (n := Nib.fin s p) (p := p) (i := p + j) (by omega) (by omega)
    simp only [Nib.nobr, Nib.bt_in h2, hbe] at hn
    rw [br_iff] at hn
    simpa using hn
  unfold brkAt
  by_cases h : Nib.up (Nib.nobr s) (Nib.fin s p) p < Nib.fin s p
  · rw [if_pos h]
    obtain ⟨k, hk⟩ : ∃ k, Nib.up (Nib.nobr s) (Nib.fin s p) p = p + k := ⟨Nib.up (Nib.nobr s) (Nib.fin s p) p - p, by omega⟩
    obtain ⟨h1, h2, e⟩ := ext_get (s := s) (a := p) (b := Nib.fin s p) (j := k) hf (by omega)
    have hx := Nib.up_end h
    rw [hk] at hx
    simp only [Nib.nobr, Nib.bt_in h2] at hx
    rw [br_iff] at hx
    have hc : kBr.data.toList.contains ((s.extract p (Nib.fin s p))[k]'h1) = true := by rw [e]; simpa using hx
    rw [Lib.indexAny_hit (hno k (by omega)) (Lib.data_getElem? _ k h1) hc]
    omega
  · rw [if_neg h]
    refine Lib.indexAny_none ?_
    rw [← Lib.size_eq, hXs]
    exact hno _ (by omega)
theorem anyOk : AnyOk := by
  intro s p hs hp ww
  have hf := Nib.fin_le hp
  have hXs : (s.extract p (Nib.fin s p)).size = Nib.fin s p - p := by rw [ByteArray.size_extract]; omega
  rw [← indexAny_brk s p hp]
  by_cases h8 : (s.extract p (Nib.fin s p)).size ≤ 8
  · exact anyShort _ ww h8
  · exact anyLong _ ww (by omega) (by omega)
end Go.Proofs.YtlendfhehhacpaaGreat
namespace Go.Proofs.YtlendfhehhacpaaGreat
open Go.RowKit
def row2 (c : Int) : Bool := !Nib.key1 c || Nib.isMk c || (kCmd.all (fun k => !(c == k)) && kMrk.all (fun k => !(c == k)))
theorem row2_all : ∀ k : Nat, k < 256 → row2 (k : Int) = true := by decide +kernel
theorem key1_cmd {u : UInt8} (h : Nib.key1 u.toNat = true) (hm : Nib.isMk u.toNat = false) : (∀ c, c ∈ kCmd → ¬ (u.toNat : Int) = c) ∧ (∀ c, c ∈ kMrk → ¬ (u.toNat : Int) = c) := by
  have := row2_all u.toNat u.toNat_lt
  simp only [row2, h, hm, Bool.not_true, Bool.false_or, Bool.and_eq_true, List.all_eq_true, Bool.not_eq_true', beq_eq_false_iff_ne] at this
  exact ⟨fun c hc => this.1 c hc, fun c hc => this.2 c hc⟩
theorem plain_way (c : Int) : isPlainWay c = (Nib.isPlain c || c == 103) := by
  simp only [isPlainWay, Nib.isPlain]
  cases (c == 104) <;> cases (c == 108) <;> cases (c == 48) <;> cases (c == 94) <;> cases (c == 36) <;> cases (c == 106) <;> cases (c == 107) <;> cases (c == 71) <;> simp [Bool.or_comm, Bool.or_left_comm, Bool.or_assoc]
section
variable {m : Nat} {u : UInt8} {e : Nib.Ed} {p : Pg}
theorem cnt_n (h : Good m e p) : cnt p = p.n := by
  unfold cnt
  rw [h.b0, if_pos (Or.inr rfl), Nat.add_zero]
theorem head_n (n : Nat) (hn : n ≤ 99) : (Nib.cHead (-1) n).n.toNat = max n 1 ∧ 1 ≤ (Nib.cHead (-1) n).n ∧ (Nib.cHead (-1) n).n ≤ 99 ∧ (Nib.cHead (-1) n).given = decide (0 < n) := by
  simp only [Nib.cHead, Nib.cMk]
  refine ⟨?_, ?_, ?_, trivial⟩ <;> split <;> omega
theorem step_digit (h : Good m e p) (hu : ¬ (u.toNat : Int) = 27) (hp : p.part = 0) (hd : Nib.isD p.n u.toNat = true) : ∃ e2 p2 O, Step m u e p e2 p2 O := by
  have hb : Nib.Beg e.keys p.n 0 := hp ▸ h.bg
  have hr := Nib.rd1_num (e.mode != 0) hb hd
  refine ⟨_, { p with n := Nib.nextN p.n u.toNat }, 0, step_more h hu hr.1 ?_ ?_ ?_⟩
  · refine ⟨h.ts, h.ps, h.st, h.md, h.fo, h.rs, h.rl, h.t, h.pl, h.an, h.mo, h.rg, h.nw, h.fd, h.fc, h.r0, h.v0, h.b0, ?_⟩
    show Nib.Beg _ _ p.part
    rw [hp]
    exact hr.2
  · exact fun _ r d ww hh => mTake_digit r d p u.toNat ww hh hp h.v0 h.bg.le hd
  · exact fun _ r d ww hh => mMTake_digit r d p u.toNat ww hh hp h.v0 h.bg.le hd
theorem step_part (h : Good m e p) (hu : ¬ (u.toNat : Int) = 27) (h1 : Nib.key1 u.toNat = true) (hp : p.part = 0) (hd : Nib.isD p.n u.toNat = false) (hk : Nib.isFind u.toNat = true ∨ (u.toNat : Int) = 103) : ∃ e2 p2 O, Step m u e p e2 p2 O := by
  have hb : Nib.Beg e.keys p.n 0 := hp ▸ h.bg
  have hr := Nib.rd1_part (e.mode != 0) hb hk h1
  have hm : Nib.isMk u.toNat = false := by
    have hk' := hk
    simp only [Nib.isFind, Bool.or_eq_true, beq_iff_eq] at hk'
    simp only [Nib.isMk, Bool.or_eq_false_iff, beq_eq_false_iff_ne]; omega
  have hc := key1_cmd h1 hm
  have hW : WayR u.toNat p { p with part := u.toNat } 0 := fun r d => GivesR.of_r (fun ww hh => mWay_part r d p u.toNat ww hh hk)
  refine ⟨_, { p with part := u.toNat }, 0, step_more h hu hr.1 ?_ (fun _ => takeN_way hW hp h.v0 hd hc.1) (fun _ => takeM_way hW hp h.v0 hd hc.2)⟩
  exact ⟨h.ts, h.ps, h.st, h.md, h.fo, h.rs, h.rl, h.t, h.pl, h.an, h.mo, h.rg, h.nw, h.fd, h.fc, h.r0, h.v0, h.b0, hr.2⟩
theorem step_mark (h : Good m e p) (hu : ¬ (u.toNat : Int) = 27) (h1 : Nib.key1 u.toNat = true) (hp : p.part = 0) (hd : Nib.isD p.n u.toNat = false) (hk : Nib.isMk u.toNat = true) : ∃ e2 p2 O, Step m u e p e2 p2 O := by
  have hb : Nib.Beg e.keys p.n 0 := hp ▸ h.bg
  have hr := Nib.rd1_mark (e.mode != 0) hb hk h1
  have hk' := hk
  simp only [Nib.isMk, Bool.or_eq_true, beq_iff_eq] at hk'
  by_cases hm0 : e.mode = 0
  · refine ⟨markEd { e with keys := ⟨#[]⟩ } (Nib.cO (Nib.cHead (-1) p.n) u.toNat), _, _, step_does (ok := true) (p2 := { p with mode := if (u.toNat : Int) = 86 then 3 else 2, anchor := p.pl }) h hu hr rfl rfl rfl (Or.inr hk') rfl ?_ rfl ?_ ?_ ?_ ?_ ?_⟩
    · simp only [markEd]; split <;> omega
    · exact fun _ b dv uv ww hE => normal_mark b _ _ dv uv ww hE h.ts h.ps rfl rfl hk'
    · exact fun hm => absurd hm0 (by omega)
    · have hmm : (if (Nib.cO (Nib.cHead (-1) p.n) u.toNat).other = 86 then (3 : Int) else 2) = if (u.toNat : Int) = 86 then 3 else 2 := rfl
      refine ⟨h.ts, h.ps, h.st, ?_, h.fo, h.rs, h.rl, h.t, h.pl, ?_, rfl, h.rg, h.nw, h.fd, h.fc, rfl, rfl, rfl, Nib.beg_nil⟩
      · simp only [markEd]; split <;> simp
      · show p.pl = if (if (Nib.cO (Nib.cHead (-1) p.n) u.toNat).other = 86 then (3 : Int) else 2) = 0 then 0 else e.p
        rw [if_neg (by split <;> omega)]
        exact h.pl
    · exact fun _ r d ww hh => mTake_cmd r d p _ u.toNat 1 ww hh hp h.v0 hd (fun w2 h2 => mCommand_mark r d p u.toNat w2 h2 hk')
    · exact fun hm => absurd (h.mo.trans hm0) (by omega)
  · refine ⟨{ e with keys := ⟨#[]⟩, mode := turnTo { e with keys := ⟨#[]⟩ } (Nib.cO (Nib.cHead (-1) p.n) u.toNat) }, _, _, step_does (ok := true) (p2 := if p.mode = (if (u.toNat : Int) = 86 then 3 else 2) then { p with mode := 0, anchor := 0 } else { p with mode := if (u.toNat : Int) = 86 then 3 else 2 }) h hu hr rfl rfl rfl (Or.inr hk') rfl ?_ rfl ?_ ?_ ?_ ?_ ?_⟩
    · simp only [turnTo]; (repeat' split) <;> omega
    · exact fun hm => absurd hm hm0
    · exact fun _ b dv uv ww hE => marked_turn b _ _ dv uv ww hE rfl rfl hk'
    · have ht : turnTo { e with keys := ⟨#[]⟩ } (Nib.cO (Nib.cHead (-1) p.n) u.toNat) = if e.mode = (if (u.toNat : Int) = 86 then 3 else 2) then 0 else (if (u.toNat : Int) = 86 then 3 else 2) := rfl
      rw [ht]
      have han := h.an
      rw [if_neg hm0] at han
      by_cases hq : e.mode = (if (u.toNat : Int) = 86 then 3 else 2)
      · rw [if_pos hq, if_pos (h.mo.trans hq)]
        exact ⟨h.ts, h.ps, h.st, Or.inl rfl, h.fo, h.rs, h.rl, h.t, h.pl, rfl, rfl, h.rg, h.nw, h.fd, h.fc, rfl, rfl, rfl, Nib.beg_nil⟩
      · rw [if_neg hq, if_neg (fun hc => hq (h.mo.symm.trans hc))]
        refine ⟨h.ts, h.ps, h.st, ?_, h.fo, h.rs, h.rl, h.t, h.pl, ?_, rfl, h.rg, h.nw, h.fd, h.fc, rfl, rfl, rfl, Nib.beg_nil⟩
        · show (if (u.toNat : Int) = 86 then (3 : Int) else 2) = 0 ∨ _
          split <;> simp
        · show p.anchor = if (if (u.toNat : Int) = 86 then (3 : Int) else 2) = 0 then 0 else e.anchor
          rw [if_neg (by split <;> omega)]
          exact han
    · exact fun hm => absurd (h.mo.symm.trans hm) hm0
    · exact fun _ r d ww hh => mMTake_cmd r d p _ u.toNat 1 ww hh hp h.v0 hd (fun w2 h2 => mMCommand_turn r d p u.toNat w2 h2 hk')
theorem step_way {x : Nib.Cmd} {pf : Pg} (h : Good m e p) (hu : ¬ (u.toNat : Int) = 27) (hr : Nib.rd (e.keys ++ ⟨#[u]⟩) (e.mode != 0) = x) (hx : x.more = false) (hx2 : x.bad = false) (hv : x.verb = 0) (ho : x.other = 0)
    (hn1 : 1 ≤ x.n) (hn : x.n ≤ 99) (hw : Nib.isWay x.way = true ∨ x.way = 59 ∨ x.way = 44) (hc : ¬ x.c = 27)
    (hf1 : pf = { p with fnd := (Nib.wayEd { e with keys := ⟨#[]⟩ } x).find, findC := (Nib.wayEd { e with keys := ⟨#[]⟩ } x).findC })
    (hN : p.mode = 0 → TakeN u.toNat p (arrEd pf (Nib.wayOf { e with keys := ⟨#[]⟩ } x false)) (if (Nib.wayOf { e with keys := ⟨#[]⟩ } x false).2.2 = true then 4 else 1))
    (hM : p.mode = 2 ∨ p.mode = 3 → TakeM u.toNat p (arrEd pf (Nib.wayOf { e with keys := ⟨#[]⟩ } x false)) (if (Nib.wayOf { e with keys := ⟨#[]⟩ } x false).2.2 = true then 4 else 1)) : ∃ e2 p2 O, Step m u e p e2 p2 O := by
  generalize he : ({ e with keys := ⟨#[]⟩ } : Nib.Ed) = ek at *
  have hts : ek.t.size ≤ 1000 := by rw [← he]; exact h.ts
  have hps : ek.p ≤ ek.t.size := by rw [← he]; exact h.ps
  have hfo : findOk ek := by rw [← he]; exact h.fo
  have hot : ek.t = e.t := by rw [← he]
  have hom : ek.mode = e.mode := by rw [← he]
  have hok : ek.keys = ⟨#[]⟩ := by rw [← he]
  have hop : ek.p = e.p := by rw [← he]
  have w1 : (Nib.wayEd ek x).t = ek.t := wayEd_t ek x
  have w2 : (Nib.wayEd ek x).mode = ek.mode := by unfold Nib.wayEd; split <;> rfl
  have w3 : (Nib.wayEd ek x).keys = ek.keys := by unfold Nib.wayEd; split <;> rfl
  have w4 : (Nib.wayEd ek x).p = ek.p := by unfold Nib.wayEd; split <;> rfl
  have w5 : (Nib.wayEd ek x).regS = e.regS := by unfold Nib.wayEd; split <;> rw [← he]
  have w6 : (Nib.wayEd ek x).regL = e.regL := by unfold Nib.wayEd; split <;> rw [← he]
  have w7 : (Nib.wayEd ek x).anchor = e.anchor := by unfold Nib.wayEd; split <;> rw [← he]
  have w8 : findOk (Nib.wayEd ek x) := by
    unfold Nib.wayEd
    split
    · rename_i hq; exact Or.inr hq.1
    · exact hfo
  have hR := fun hz => Nib.wayOf_in (e := ek) (x := x) hps hn1 hz
  have hO : (if (Nib.wayOf ek x false).2.2 = true then (4 : Int) else 1) = if goesOk ek x = true then 1 else 4 := by
    unfold goesOk
    cases (Nib.wayOf ek x false).2.2 <;> rfl
  rw [hO] at hN hM
  have g1 : (goesEd ek x).t = ek.t := by unfold goesEd; split <;> simp [w1]
  have g2 : (goesEd ek x).mode = ek.mode := by unfold goesEd; split <;> simp [w2]
  have g3 : (goesEd ek x).keys = ek.keys := by unfold goesEd; split <;> simp [w3]
  refine ⟨goesEd ek x, _, _, step_does (x := x) (ok := goesOk ek x) (p2 := arrEd pf (Nib.wayOf ek x false)) h hu hr hx hx2 hv (Or.inl ho) (g1.trans hot) (by rw [g2, hom]; exact ne1 h) (g3.trans hok) ?_ ?_ ?_ hN hM⟩
  · intro _ b dv uv ww hE
    rw [he] at hE
    exact normal_way b ek x dv uv ww hE hts hps hn1 hn hw hfo hc hv ho
  · intro _ b dv uv ww hE
    rw [he] at hE
    exact marked_way b ek x dv uv ww hE hts hps hn1 hn hw hfo hc
  · have q1 : pf.t = e.t := by rw [hf1]; exact h.t
    have q2 : pf.pl = e.p := by rw [hf1]; exact h.pl
    have q3 : pf.anchor = if e.mode = 0 then 0 else e.anchor := by rw [hf1]; exact h.an
    have q4 : pf.mode = e.mode := by rw [hf1]; exact h.mo
    have q5 : pf.regs = .map (some m) := by rw [hf1]; exact h.rg
    have q6 : pf.now = e.t := by rw [hf1]; exact h.nw
    have q7 : pf.fnd = (Nib.wayEd ek x).find := by rw [hf1]
    have q8 : pf.findC = (Nib.wayEd ek x).findC := by rw [hf1]
    cases hz : (Nib.wayOf ek x false).2.2 with
    | true =>
      have a1 : goesEd ek x = Nib.wayEd ek x := by rw [goesEd, if_pos hz]
      have a2 : arrEd pf (Nib.wayOf ek x false) = pf := by rw [arrEd, if_pos hz]
      rw [a1, a2]
      refine ⟨by rw [w1, hot]; exact h.ts, by rw [w1, w4, hot, hop]; exact h.ps, by rw [w1, w4, hot, hop]; exact h.st, by rw [w2, hom]; exact h.md, w8, by rw [w5]; exact h.rs, by rw [w6]; exact h.rl, ?_, ?_, ?_, ?_, q5, ?_, q7, q8, rfl, rfl, rfl, by rw [w3, hok]; exact Nib.beg_nil⟩
      · show pf.t = _; rw [q1, w1, hot]
      · show pf.pl = _; rw [q2, w4, hop]
      · show pf.anchor = _; rw [q3, w2, hom, w7]
      · show pf.mode = _; rw [q4, w2, hom]
      · show pf.now = _; rw [q6, w1, hot]
    | false =>
      have a1 : goesEd ek x = { Nib.wayEd ek x with p := Nib.clm ek.t (Nib.wayOf ek x false).1.toNat } := by rw [goesEd, if_neg (by simp [hz])]
      have a2 : arrEd pf (Nib.wayOf ek x false) = { pf with pl := Nib.clm pf.t (Nib.wayOf ek x false).1.toNat } := by rw [arrEd, if_neg (by simp [hz])]
      have hin := hR hz
      have hq : (Nib.wayOf ek x false).1.toNat ≤ ek.t.size := by omega
      rw [a1, a2]
      generalize (Nib.wayOf ek x false).1.toNat = Q at *
      refine ⟨by show (Nib.wayEd ek x).t.size ≤ 1000; rw [w1, hot]; exact h.ts, ?_, ?_, by show (Nib.wayEd ek x).mode = 0 ∨ _; rw [w2, hom]; exact h.md, w8, by show (Nib.wayEd ek x).regS = _; rw [w5]; exact h.rs, by show (Nib.wayEd ek x).regL = _; rw [w6]; exact h.rl, ?_, ?_, ?_, ?_, q5, ?_, q7, q8, rfl, rfl, rfl, by show Nib.Beg (Nib.wayEd ek x).keys 0 0; rw [w3, hok]; exact Nib.beg_nil⟩
      · show Nib.clm ek.t Q ≤ (Nib.wayEd ek x).t.size; rw [w1]; exact Nib.clm_in hq
      · show Nib.clm ek.t Q ≤ Nib.lst (Nib.wayEd ek x).t (Nib.clm ek.t Q); rw [w1]; exact Nib.clm_settled hq
      · show pf.t = (Nib.wayEd ek x).t; rw [q1, w1, hot]
      · show Nib.clm pf.t Q = Nib.clm ek.t Q; rw [q1, hot]
      · show pf.anchor = if (Nib.wayEd ek x).mode = 0 then 0 else (Nib.wayEd ek x).anchor; rw [q3, w2, hom, w7]
      · show pf.mode = (Nib.wayEd ek x).mode; rw [q4, w2, hom]
      · show pf.now = (Nib.wayEd ek x).t; rw [q6, w1, hot]
end
end Go.Proofs.YtlendfhehhacpaaGreat
