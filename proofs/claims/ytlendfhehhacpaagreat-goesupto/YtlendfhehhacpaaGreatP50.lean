/- Joined of the texts LawJ, LawK. -/
import Derived.Test.YtlendfhehhacpaaGreatP49
set_option linter.unusedVariables false
set_option linter.unusedSimpArgs false
set_option maxRecDepth 100000
set_option maxHeartbeats 8000000
namespace Go.Proofs.YtlendfhehhacpaaGreat
open Go.RowKit
def fp (x : Pl) : List Nat := x.k :: x.q :: x.m :: x.rb :: blks x.b x.r x.d x.tv
structure PlOk (x : Pl) : Prop where
  k1 : x.k ∉ blks x.b x.r x.d x.tv
  q1 : x.q ∉ blks x.b x.r x.d x.tv
  m1 : x.m ∉ blks x.b x.r x.d x.tv
  r1 : x.rb ∉ blks x.b x.r x.d x.tv
  rk : x.rb ≠ x.k
  rq : x.rb ≠ x.q
  rm : x.rb ≠ x.m
def ptrs (xs : List Pl) : List Value := xs.map (fun x => Value.pointer (some ⟨x.k, 0, none⟩))
structure Team (B : Nat) (w : World) (v : Value) (xs : List Pl) (M : Nat) : Prop where
  le : xs.length ≤ 3
  row : w.ownsRow B 56 1 v xs.length (ptrs xs)
  pl : ∀ i, (h : i < xs.length) → PlAt w (xs[i]'h)
  ok : ∀ i, (h : i < xs.length) → PlOk (xs[i]'h)
  old : ∀ i, (h : i < xs.length) → ∀ a, a ∈ fp (xs[i]'h) → B ≤ a ∧ a < w.heap.size
  sz : ∀ i, (h : i < xs.length) → (xs[i]'h).n ≤ M ∧ (xs[i]'h).e.keys.size ≤ M
  dis : ∀ i j, (hi : i < xs.length) → (hj : j < xs.length) → i ≠ j → ∀ a, a ∈ fp (xs[i]'hi) → a ∉ fp (xs[j]'hj)
  rw' : ∀ g, v.ownBlock = some g → ∀ i, (h : i < xs.length) → g ∉ fp (xs[i]'h)
theorem ownsRow_below {w w' : World} {a e s : Nat} {v : Value} {n : Nat} {xs : List Value} (h : w.ownsRow a e s v n xs) (hb : Below w.heap.size w w') : w'.ownsRow a e s v n xs := ownsRow_upd h (Upd.of_below (S := []) hb) (by simp)
theorem Team.below {B : Nat} {w w' : World} {v : Value} {xs : List Pl} {M : Nat} (h : Team B w v xs M) (hb : Below w.heap.size w w') : Team B w' v xs M :=
  ⟨h.le, ownsRow_below h.row hb, fun i hi => (h.pl i hi).below hb, h.ok, fun i hi a ha => ⟨(h.old i hi a ha).1, Nat.lt_of_lt_of_le (h.old i hi a ha).2 hb.size⟩, h.sz, h.dis, h.rw'⟩
theorem Team.alloc {B : Nat} {w : World} {v : Value} {xs : List Pl} {M : Nat} (h : Team B w v xs M) (o : Obj) : Team B (w.alloc o) v xs M := h.below ((Below.refl _ _).alloc (Nat.le_refl _) _)
theorem Team.drew {B : Nat} {w : World} {v : Value} {xs : List Pl} {M : Nat} (h : Team B w v xs M) : Team B w.drew v xs M := h.below (Below.refl _ _).drew
theorem Team.drewN {B : Nat} {w : World} {v : Value} {xs : List Pl} {M : Nat} (h : Team B w v xs M) (n : Nat) : Team B (w.drewN n) v xs M := h.below (below_drewN (Below.refl _ _) _)
theorem Team.mono {B : Nat} {w : World} {v : Value} {xs : List Pl} {M M' : Nat} (h : Team B w v xs M) (hM : M ≤ M') : Team B w v xs M' :=
  ⟨h.le, h.row, h.pl, h.ok, h.old, fun i hi => ⟨Nat.le_trans (h.sz i hi).1 hM, Nat.le_trans (h.sz i hi).2 hM⟩, h.dis, h.rw'⟩
theorem Team.set {B : Nat} {w : World} {v : Value} {xs : List Pl} {M : Nat} (h : Team B w v xs M) {a : Addr} (u : Value) (h1 : ∀ i, (hi : i < xs.length) → a.block ∉ fp (xs[i]'hi)) (h2 : v.ownBlock ≠ some a.block) : Team B (w.setCell a u) v xs M := by
  have hu : Upd [a.block] w (w.setCell a u) := Upd.setCell (Upd.refl _ _) (Or.inl (by simp)) u
  refine ⟨h.le, ownsRow_upd h.row hu (by simp [h2]), fun i hi => ?_, h.ok, fun i hi b hb => ⟨(h.old i hi b hb).1, Nat.lt_of_lt_of_le (h.old i hi b hb).2 hu.size⟩, h.sz, h.dis, h.rw'⟩
  have hn := h1 i hi
  have ne : ∀ y, y ∈ fp (xs[i]'hi) → y ∉ [a.block] := fun y hy hm => hn (by simp at hm; rw [← hm]; exact hy)
  exact (h.pl i hi).of_upd hu (ne _ (by simp [fp])) (ne _ (by simp [fp])) (ne _ (by simp [fp])) (ne _ (by simp [fp])) (fun y hy => ne y (by simp [fp, hy]))
theorem Team.nil (B : Nat) (w : World) (M : Nat) : Team B w (.slice none 0 0) [] M :=
  ⟨by simp, World.ownsRow_nil _ _ _ _, fun i h => absurd h (by simp), fun i h => absurd h (by simp), fun i h => absurd h (by simp), fun i h => absurd h (by simp), fun i j h => absurd h (by simp), fun g h => by simp [Value.ownBlock] at h⟩
theorem Team.shape {B : Nat} {w : World} {v : Value} {xs : List Pl} {M : Nat} (h : Team B w v xs M) : ∃ ao cap, v = .slice ao xs.length cap ∧ (0 < xs.length → ∃ g, ao = some ⟨g, 0, none⟩ ∧ ∀ i, (hi : i < xs.length) → w.cell? ⟨g, i, none⟩ = some (.pointer (some ⟨(xs[i]'hi).k, 0, none⟩))) := by
  have hr := h.row
  rcases h.row.2 with ⟨h1, h2⟩ | ⟨g, cap, cur, h1, _⟩
  · exact ⟨none, 0, by rw [h2]; exact h1, fun h3 => absurd h3 (by omega)⟩
  · refine ⟨some ⟨g, 0, none⟩, cap, h1, fun _ => ⟨g, rfl, fun i hi => ?_⟩⟩
    have := hr.cells (g := g) (by rw [h1]; rfl) i (.pointer (some ⟨(xs[i]'hi).k, 0, none⟩)) (by simp [ptrs, hi])
    have e : (⟨g, 0, none⟩ : Addr).add i = ⟨g, i, none⟩ := by unfold Addr.add; split <;> simp_all
    rw [← e]; exact this
theorem Team.cell {B : Nat} {w : World} {ao : Option Addr} {n cap : Nat} {xs : List Pl} {M : Nat} (h : Team B w (.slice ao n cap) xs M) {i : Nat} (hi : i < xs.length) : ∃ g, ao = some ⟨g, 0, none⟩ ∧ w.cell? ⟨g, i, none⟩ = some (.pointer (some ⟨(xs[i]'hi).k, 0, none⟩)) := by
  obtain ⟨ao', cap', e, hs⟩ := h.shape
  injection e with e1 e2 e3
  obtain ⟨g, h1, h2⟩ := hs (by omega)
  exact ⟨g, by rw [e1, h1], h2 i hi⟩
theorem Team.push {B : Nat} {w w' : World} {v v' : Value} {xs : List Pl} {M : Nat} {x : Pl} (h : Team B w v xs M) (hl : xs.length < 3) (hx : PlAt w' x) (hok : PlOk x) (hold : ∀ a, a ∈ fp x → w.heap.size ≤ a ∧ a < w'.heap.size) (hsz : x.n ≤ M ∧ x.e.keys.size ≤ M)
    (hrow : w'.ownsRow B 56 1 v' (xs.length + 1) (ptrs xs ++ [Value.pointer (some ⟨x.k, 0, none⟩)])) (hu : Upd (own v) w w') (hg : ∀ g, v'.ownBlock = some g → (v.ownBlock = some g ∨ w.heap.size ≤ g) ∧ g ∉ fp x) (hB : B ≤ w.heap.size) : Team B w' v' (xs ++ [x]) M := by
  have hlen : (xs ++ [x]).length = xs.length + 1 := by simp
  have hvo : ∀ k, k ∈ own v → ∀ i, (hi : i < xs.length) → k ∉ fp (xs[i]'hi) := fun k hk i hi => h.rw' k (mem_own.1 hk) i hi
  have hpl : ∀ i, (hi : i < xs.length) → PlAt w' (xs[i]'hi) := by
    intro i hi
    have ne : ∀ y, y ∈ fp (xs[i]'hi) → y ∉ own v := fun y hy hm => hvo y hm i hi hy
    exact (h.pl i hi).of_upd hu (ne _ (by simp [fp])) (ne _ (by simp [fp])) (ne _ (by simp [fp])) (ne _ (by simp [fp])) (fun y hy => ne y (by simp [fp, hy]))
  have hget : ∀ i, (hi : i < (xs ++ [x]).length) → (∃ hj : i < xs.length, (xs ++ [x])[i]'hi = xs[i]'hj) ∨ (i = xs.length ∧ (xs ++ [x])[i]'hi = x) := by
    intro i hi
    by_cases hj : i < xs.length
    · exact Or.inl ⟨hj, List.getElem_append_left hj⟩
    · right
      have : i = xs.length := by omega
      subst this
      exact ⟨rfl, by simp⟩
  refine ⟨by omega, ?_, ?_, ?_, ?_, ?_, ?_, ?_⟩
  · rw [hlen]
    have : ptrs (xs ++ [x]) = ptrs xs ++ [Value.pointer (some ⟨x.k, 0, none⟩)] := by simp [ptrs]
    rw [this]; exact hrow
  · intro i hi
    rcases hget i hi with ⟨hj, e⟩ | ⟨_, e⟩ <;> rw [e]
    · exact hpl i hj
    · exact hx
  · intro i hi
    rcases hget i hi with ⟨hj, e⟩ | ⟨_, e⟩ <;> rw [e]
    · exact h.ok i hj
    · exact hok
  · intro i hi
    rcases hget i hi with ⟨hj, e⟩ | ⟨_, e⟩ <;> rw [e] <;> intro a ha
    · exact ⟨(h.old i hj a ha).1, Nat.lt_of_lt_of_le (h.old i hj a ha).2 hu.size⟩
    · exact ⟨Nat.le_trans hB (hold a ha).1, (hold a ha).2⟩
  · intro i hi
    rcases hget i hi with ⟨hj, e⟩ | ⟨_, e⟩ <;> rw [e]
    · exact h.sz i hj
    · exact hsz
  · intro i j hi hj hij
    rcases hget i hi with ⟨hi', e⟩ | ⟨e0, e⟩ <;> rcases hget j hj with ⟨hj', e'⟩ | ⟨e0', e'⟩ <;> rw [e, e'] <;> intro a ha hb
    · exact h.dis i j hi' hj' hij a ha hb
    · have := (h.old i hi' a ha).2; have := (hold a hb).1; omega
    · have := (h.old j hj' a hb).2; have := (hold a ha).1; omega
    · omega
  · intro g hg' i hi
    have hq := hg g hg'
    rcases hget i hi with ⟨hj, e⟩ | ⟨_, e⟩ <;> rw [e]
    · rcases hq.1 with h1 | h1
      · exact h.rw' g h1 i hj
      · intro hm; have := (h.old i hj g hm).2; omega
    · exact hq.2
theorem Team.turn {B : Nat} {w w' : World} {v : Value} {xs : List Pl} {M M' : Nat} {j : Nat} {x : Pl} (h : Team B w v xs M) (hj : j < xs.length) (hk : x.k = (xs[j]'hj).k) (hx : PlAt w' x) (hok : PlOk x) (hM : M ≤ M') (hsz : x.n ≤ M' ∧ x.e.keys.size ≤ M')
    (hfp : ∀ a, a ∈ fp x → a ∈ fp (xs[j]'hj) ∨ (w.heap.size ≤ a ∧ a < w'.heap.size)) (hu : Upd (fp (xs[j]'hj)) w w') (hB : B ≤ w.heap.size) : Team B w' v (xs.set j x) M' := by
  have hlen : (xs.set j x).length = xs.length := by simp
  have hget : ∀ i, (hi : i < (xs.set j x).length) → (i = j ∧ (xs.set j x)[i]'hi = x) ∨ (i ≠ j ∧ ∃ hi' : i < xs.length, (xs.set j x)[i]'hi = xs[i]'hi') := by
    intro i hi
    by_cases e : i = j
    · subst e; exact Or.inl ⟨rfl, by simp⟩
    · refine Or.inr ⟨e, by omega, ?_⟩
      rw [List.getElem_set_ne (fun h => e h.symm)]
  have hrest : ∀ i, (hi : i < xs.length) → i ≠ j → PlAt w' (xs[i]'hi) := by
    intro i hi hij
    have ne : ∀ y, y ∈ fp (xs[i]'hi) → y ∉ fp (xs[j]'hj) := h.dis i j hi hj hij
    exact (h.pl i hi).of_upd hu (ne _ (by simp [fp])) (ne _ (by simp [fp])) (ne _ (by simp [fp])) (ne _ (by simp [fp])) (fun y hy => ne y (by simp [fp, hy]))
  refine ⟨by rw [hlen]; exact h.le, ?_, ?_, ?_, ?_, ?_, ?_, ?_⟩
  · have : ptrs (xs.set j x) = ptrs xs := by
      unfold ptrs
      apply List.ext_getElem
      · simp
      · intro i h1 h2
        simp only [List.getElem_map]
        rcases hget i (by simpa using h1) with ⟨e, e'⟩ | ⟨_, _, e'⟩
        · subst e; rw [e', hk]
        · rw [e']
    rw [hlen, this]
    exact ownsRow_upd h.row hu (fun k hk' hq => h.rw' k hq j hj hk')
  · intro i hi
    rcases hget i hi with ⟨_, e⟩ | ⟨e0, hi', e⟩ <;> rw [e]
    · exact hx
    · exact hrest i hi' e0
  · intro i hi
    rcases hget i hi with ⟨_, e⟩ | ⟨e0, hi', e⟩ <;> rw [e]
    · exact hok
    · exact h.ok i hi'
  · intro i hi
    rcases hget i hi with ⟨_, e⟩ | ⟨e0, hi', e⟩ <;> rw [e] <;> intro a ha
    · rcases hfp a ha with h1 | h1
      · exact ⟨(h.old j hj a h1).1, Nat.lt_of_lt_of_le (h.old j hj a h1).2 hu.size⟩
      · exact ⟨Nat.le_trans hB h1.1, h1.2⟩
    · exact ⟨(h.old i hi' a ha).1, Nat.lt_of_lt_of_le (h.old i hi' a ha).2 hu.size⟩
  · intro i hi
    rcases hget i hi with ⟨_, e⟩ | ⟨e0, hi', e⟩ <;> rw [e]
    · exact hsz
    · exact ⟨Nat.le_trans (h.sz i hi').1 hM, Nat.le_trans (h.sz i hi').2 hM⟩
  · intro i i2 hi hi2 hij
    rcases hget i hi with ⟨e0, e⟩ | ⟨e0, hi', e⟩ <;> rcases hget i2 hi2 with ⟨f0, f⟩ | ⟨f0, hj', f⟩ <;> rw [e, f] <;> intro a ha hb
    · omega
    · rcases hfp a ha with h1 | h1
      · exact h.dis j i2 hj hj' (fun q => f0 q.symm) a h1 hb
      · have := (h.old i2 hj' a hb).2; omega
    · rcases hfp a hb with h1 | h1
      · exact h.dis i j hi' hj e0 a ha h1
      · have := (h.old i hi' a ha).2; omega
    · exact h.dis i i2 hi' hj' hij a ha hb
  · intro g hg i hi
    rcases hget i hi with ⟨_, e⟩ | ⟨e0, hi', e⟩ <;> rw [e]
    · intro hm
      rcases hfp g hm with h1 | h1
      · exact h.rw' g hg j hj h1
      · have := (h.row.lt g hg).2; omega
    · exact h.rw' g hg i hi'
theorem keptOf_len (s : ByteArray) (stage : Int) : (keptOf s stage).size = (keptL s stage s.size).length := by
  show (keptL s stage s.size).toArray.size = _
  rw [List.size_toArray]
theorem keptOf_key1 (s : ByteArray) : ∀ k, (hk : k < (keptOf s 1).size) → Nib.key1 ((keptOf s 1)[k]'hk).toNat = true := by
  intro k hk
  have hk' : k < (keptL s 1 s.size).length := by rw [← keptOf_len]; exact hk
  have e : (keptOf s 1)[k]'hk = (keptL s 1 s.size)[k]'hk' := by
    first | rfl | simp only [keptOf, ByteArray.getElem_eq_getElem_data, List.getElem_toArray]
  rw [e]
  have hm : (keptL s 1 s.size)[k]'hk' ∈ keptL s 1 s.size := List.getElem_mem _
  have := (List.mem_filter.1 hm).2
  exact this
theorem keptOf_size (s : ByteArray) (stage : Int) : (keptOf s stage).size ≤ s.size := by
  rw [keptOf_len]; exact keptL_le s stage s.size
theorem fresh_notin {w w' : World} {tv tv' : Value} {b r d y : Nat} (hf : Fresh w tv tv') (hy : y < w.heap.size) (h : y ∉ blks b r d tv) : y ∉ blks b r d tv' := by
  intro hm
  rcases hf.blks b r d y hm with h1 | h1
  · exact h h1
  · omega
theorem pl_typed {w w1 w2 : World} {x : Pl} {s : ByteArray} {e2 : Nib.Ed} {p2 : Pg} {N : Int} {tv' : Value} {n' : Nat} (h : PlAt w x) (hok : PlOk x) (hT : Typed x.m s x.e x.p e2 p2 N)
    (hN : NbAt w1 x.b x.r x.d p2 tv' n' ⟨#[]⟩) (hf : Fresh w x.tv tv') (hu : Upd (blks x.b x.r x.d x.tv) w w1) (hE : EdAt w2 x.rb e2 x.dv x.uv) (hu2 : Upd [x.rb] w1 w2) :
    PlAt w2 { x with tv := tv', n := n', e := e2, p := p2 } ∧ PlOk { x with tv := tv', n := n', e := e2, p := p2 } ∧
    (∀ a, a ∈ fp { x with tv := tv', n := n', e := e2, p := p2 } → a ∈ fp x ∨ (w.heap.size ≤ a ∧ a < w2.heap.size)) ∧ Upd (fp x) w w2 := by
  have kl : x.k < w.heap.size := World.block_lt_of_cell? w ⟨x.k, 0, none⟩ h.c0
  have ql : x.q < w.heap.size := World.block_lt_of_cell? w ⟨x.q, 0, none⟩ h.cq
  have ml : x.m < w.heap.size := (Array.getElem?_eq_some_iff.1 h.mp).1
  have rl : x.rb < w.heap.size := h.ed.lt
  have k2 := fresh_notin (w' := w) hf kl hok.k1
  have q2 := fresh_notin (w' := w) hf ql hok.q1
  have m2 := fresh_notin (w' := w) hf ml hok.m1
  have r2 := fresh_notin (w' := w) hf rl hok.r1
  have hnb : NbAt w2 x.b x.r x.d p2 tv' n' ⟨#[]⟩ := hN.of_upd hu2 (fun y hy hm => r2 (by simp at hm; rw [← hm]; exact hy))
  refine ⟨⟨?_, ?_, ?_, hnb, ?_, hE, hT.good⟩, ⟨k2, q2, m2, r2, hok.rk, hok.rq, hok.rm⟩, ?_, ?_⟩
  · exact hu2.was (hu.was h.c0 hok.k1) (by simp; exact fun e => hok.rk e.symm)
  · exact hu2.was (hu.was h.c1 hok.k1) (by simp; exact fun e => hok.rk e.symm)
  · exact hu2.was (hu.was h.cq hok.q1) (by simp; exact fun e => hok.rq e.symm)
  · show w2.heap[x.m]? = _
    rw [hu2.block x.m (Nat.lt_of_lt_of_le ml hu.size) (by simp; exact fun e => hok.rm e.symm), hu.block x.m ml hok.m1]
    exact h.mp
  · intro a ha
    simp only [fp, List.mem_cons] at ha ⊢
    rcases ha with ha | ha | ha | ha | ha
    · simp [ha]
    · simp [ha]
    · simp [ha]
    · simp [ha]
    · rcases hf.blks x.b x.r x.d a ha with h1 | h1
      · exact Or.inl (Or.inr (Or.inr (Or.inr (Or.inr h1))))
      · refine Or.inr ⟨h1, ?_⟩
        have hl := hu2.size
        simp only [blks, List.mem_cons, mem_own] at ha
        rcases ha with ha | ha | ha | ha
        · have := hN.bd.lt; omega
        · have := hN.rd.bg.lt; omega
        · have := hN.rd.dk.lt; omega
        · obtain ⟨xs, hx⟩ := hN.ow
          have := (hx.lt a ha).2; omega
  · refine (hu.mono ?_).trans (hu2.mono ?_)
    · intro k hk; simp [fp, hk]
    · intro k hk; simp at hk; simp [fp, hk]
theorem pl_new {w w1 w2 w3 : World} {t : ByteArray} {q b r d m : Nat} (hs : t.size ≤ 1000) (hq : w1.cell? ⟨q, 0, none⟩ = some (.pointer (some ⟨b, 0, none⟩))) (hN : NbAt w1 b r d (newPg t m) (.slice none 0 0) 0 ⟨#[]⟩) (hm : w1.heap[m]? = some (.map #[] 0))
    (g1 : w.heap.size ≤ q) (g2 : w.heap.size ≤ m) (g3 : w.heap.size ≤ b) (g4 : w.heap.size ≤ r) (g5 : w.heap.size ≤ d) (n1 : q ≠ b) (n2 : q ≠ r) (n3 : q ≠ d) (n4 : m ≠ b) (n5 : m ≠ r) (n6 : m ≠ d)
    (hE : EdAt w2 w1.heap.size (newEd t) (.slice none 0 0) (.slice none 0 0)) (hB : Below w1.heap.size w1 w2) (hw : w.heap.size ≤ w1.heap.size) (h3 : w3 = w2.alloc (.cells #[.pointer (some ⟨q, 0, none⟩), .pointer (some ⟨w1.heap.size, 0, none⟩)] 58)) :
    PlAt w3 ⟨w2.heap.size, q, b, r, d, m, w1.heap.size, .slice none 0 0, 0, newEd t, newPg t m, .slice none 0 0, .slice none 0 0⟩ ∧
    PlOk ⟨w2.heap.size, q, b, r, d, m, w1.heap.size, .slice none 0 0, 0, newEd t, newPg t m, .slice none 0 0, .slice none 0 0⟩ ∧
    (∀ a, a ∈ fp ⟨w2.heap.size, q, b, r, d, m, w1.heap.size, .slice none 0 0, 0, newEd t, newPg t m, .slice none 0 0, .slice none 0 0⟩ → w.heap.size ≤ a ∧ a < w3.heap.size) := by
  have ql : q < w1.heap.size := World.block_lt_of_cell? w1 ⟨q, 0, none⟩ hq
  have ml : m < w1.heap.size := (Array.getElem?_eq_some_iff.1 hm).1
  have bl := hN.bd.lt
  have rl := hN.rd.bg.lt
  have dl := hN.rd.dk.lt
  have el := hE.lt
  have hz := hB.size
  have hB3 : Below w2.heap.size w2 w3 := by rw [h3]; exact (Below.refl _ _).alloc (Nat.le_refl _) _
  have hz3 : w3.heap.size = w2.heap.size + 1 := by rw [h3]; simp
  have own0 : own (.slice none 0 0) = [] := by simp [own, Value.ownBlock]
  refine ⟨⟨?_, ?_, ?_, ?_, ?_, hE.below hB3, ?_⟩, ⟨?_, ?_, ?_, ?_, ?_, ?_, ?_⟩, ?_⟩
  · rw [h3]; simp
  · rw [h3]; simp
  · exact memLater hB3 (memLater hB hq)
  · exact (hN.of_upd (Upd.of_below (S := []) hB) (by simp)).of_upd (Upd.of_below (S := []) hB3) (by simp)
  · show w3.heap[m]? = _
    rw [hB3.block m (by omega), hB.block m ml]; exact hm
  · exact ⟨hs, Nat.zero_le _, Nat.zero_le _, Or.inl rfl, Or.inl rfl, rfl, rfl, rfl, rfl, rfl, rfl, rfl, rfl, rfl, rfl, rfl, rfl, rfl, Nib.beg_nil⟩
  · simp [blks, own0]; omega
  · simp [blks, own0]; exact ⟨n1, n2, n3⟩
  · simp [blks, own0]; exact ⟨n4, n5, n6⟩
  · simp [blks, own0]; omega
  · show w1.heap.size ≠ w2.heap.size; omega
  · show w1.heap.size ≠ q; omega
  · show w1.heap.size ≠ m; omega
  · intro a ha
    simp [fp, blks, own0] at ha
    omega
end Go.Proofs.YtlendfhehhacpaaGreat
