import Derived.Test.YtolccoghlclidaaDoes
namespace Go.Proofs.Ytolccoghlclidaa
open Go.RowKit

/-- the pairs of a script: the program's Calc, the document's, and whether they are wrong -/
structure Pr where
  na : Nat
  nb : Nat
  f : Bool
abbrev Pr.a (x : Pr) : Addr := ⟨x.na, 0, none⟩
abbrev Pr.b (x : Pr) : Addr := ⟨x.nb, 0, none⟩
def ptrs (x : Pr) : List Value := [.pointer (some x.a), .pointer (some x.b)]
def cellsOf (P : List Pr) : List Value := P.flatMap ptrs
/-- one pair in memory: both flags are one; its blocks are the call's own, and not the row's -/
structure Good (B g : Nat) (w : World) (x : Pr) : Prop where
  ca : w.cell? x.a = some (.bool x.f)
  cb : w.cell? x.b = some (.bool x.f)
  fa : w.frozen? x.a = false
  fb : w.frozen? x.b = false
  ba : B ≤ x.na
  bb : B ≤ x.nb
  ga : x.na ≠ g
  gb : x.nb ≠ g
  ne : x.nb ≠ x.na
/-- two pairs that share no block -/
structure Sep (x y : Pr) : Prop where
  aa : x.na ≠ y.na
  ab : x.na ≠ y.nb
  ba : x.nb ≠ y.na
  bb : x.nb ≠ y.nb
structure Plays (B : Nat) (w0 w : World) (g cap : Nat) (P : List Pr) : Prop where
  row : w.ownsRow B 31 2 (.slice (some ⟨g, 0, none⟩) P.length cap) P.length (cellsOf P)
  each : ∀ (i : Nat) (x : Pr), P[i]? = some x → Good B g w x
  sep : ∀ (i j : Nat) (x y : Pr), P[i]? = some x → P[j]? = some y → i ≠ j → Sep x y
  below : Below B w0 w
  base : B ≤ w0.heap.size

theorem Good.lta {B g : Nat} {w : World} {x : Pr} (h : Good B g w x) : x.na < w.heap.size := World.block_lt_of_cell? w _ h.ca
theorem Good.ltb {B g : Nat} {w : World} {x : Pr} (h : Good B g w x) : x.nb < w.heap.size := World.block_lt_of_cell? w _ h.cb
theorem Plays.gB {B : Nat} {w0 w : World} {g cap : Nat} {P : List Pr} (h : Plays B w0 w g cap P) : B ≤ g ∧ g < w.heap.size := h.row.lt g rfl
theorem Good.below {B g : Nat} {w w' : World} {x : Pr} (h : Good B g w x) (k : Below w.heap.size w w') : Good B g w' x :=
  ⟨(k.cell h.lta).trans h.ca, (k.cell h.ltb).trans h.cb, (k.frozen h.lta).trans h.fa, (k.frozen h.ltb).trans h.fb, h.ba, h.bb, h.ga, h.gb, h.ne⟩
theorem ownsRow_block {w w' : World} {B : Nat} {e : TypeId} {size g n cap : Nat} {xs : List Value} (h : w.ownsRow B e size (.slice (some ⟨g, 0, none⟩) n cap) n xs) (k : w'.heap[g]? = w.heap[g]?) : w'.ownsRow B e size (.slice (some ⟨g, 0, none⟩) n cap) n xs := by
  obtain ⟨h1, h2⟩ := h
  refine ⟨h1, ?_⟩
  rcases h2 with ⟨h, _⟩ | ⟨g', cap', cur, h3, h4, h5, h6⟩
  · cases h
  · refine Or.inr ⟨g', cap', cur, h3, h4, ?_, h6⟩
    have : g = g' := by simp at h3; exact h3.1
    subst this
    rw [k]; exact h5
/-- nothing that was there has turned -/
theorem Plays.later {B : Nat} {w0 w w' : World} {g cap : Nat} {P : List Pr} (h : Plays B w0 w g cap P) (k : Below w.heap.size w w') : Plays B w0 w' g cap P :=
  ⟨ownsRow_block h.row (k.block g h.gB.2), fun i x hx => (h.each i x hx).below k, h.sep, h.below.trans (k.mono (Nat.le_trans h.base h.below.size)), h.base⟩

theorem cellsOf_append (P Q : List Pr) : cellsOf (P ++ Q) = cellsOf P ++ cellsOf Q := by simp [cellsOf]
theorem cellsOf_length (P : List Pr) : (cellsOf P).length = 2 * P.length := by
  induction P with
  | nil => rfl
  | cons x r ih => simp [cellsOf, ptrs] at *; omega
theorem cellsOf_get (P : List Pr) (i : Nat) (x : Pr) (h : P[i]? = some x) : (cellsOf P)[2 * i]? = some (.pointer (some x.a)) ∧ (cellsOf P)[2 * i + 1]? = some (.pointer (some x.b)) := by
  induction P generalizing i with
  | nil => simp at h
  | cons y r ih =>
    cases i with
    | zero => simp at h; subst h; simp [cellsOf, ptrs]
    | succ i =>
      have := ih i (by simpa using h)
      have e : cellsOf (y :: r) = .pointer (some y.a) :: .pointer (some y.b) :: cellsOf r := by simp [cellsOf, ptrs]
      rw [e, show 2 * (i + 1) = 2 * i + 1 + 1 by omega]
      simpa using this
theorem Plays.at {B : Nat} {w0 w : World} {g cap : Nat} {P : List Pr} (h : Plays B w0 w g cap P) (i : Nat) (x : Pr) (hx : P[i]? = some x) :
    w.cell? ⟨g, 2 * i, none⟩ = some (.pointer (some x.a)) ∧ w.cell? ⟨g, 2 * i + 1, none⟩ = some (.pointer (some x.b)) := by
  have hi : i < P.length := by
    rcases Nat.lt_or_ge i P.length with g | g
    · exact g
    · rw [List.getElem?_eq_none g] at hx; cases hx
  have c := cellsOf_get P i x hx
  exact ⟨(h.row.cellAt _ (by omega)).trans c.1, (h.row.cellAt _ (by omega)).trans c.2⟩

/-- a pair of new blocks -/
structure Fresh (n g : Nat) (w : World) (x : Pr) : Prop where
  good : Good n g w x
theorem Fresh.sep {B g n : Nat} {w w' : World} {x y : Pr} (h : Good B g w x) (hn : w.heap.size ≤ n) (k : Fresh n g w' y) : Sep x y := by
  have h1 := h.lta; have h2 := h.ltb; have h3 := k.good.ba; have h4 := k.good.bb
  exact ⟨by omega, by omega, by omega, by omega⟩
theorem Sep.symm {x y : Pr} (h : Sep x y) : Sep y x := ⟨Ne.symm h.aa, Ne.symm h.ba, Ne.symm h.ab, Ne.symm h.bb⟩

/-- the row's first cell is a pointer -/
theorem row_ptr {w : World} {B g cap n : Nat} {P : List Pr} {y : Pr} (row : w.ownsRow B 31 2 (.slice (some ⟨g, 0, none⟩) n cap) n (cellsOf P ++ ptrs y)) : ∃ p, w.cell? ⟨g, 0, none⟩ = some (.pointer p) := by
  have hl := row.1
  have : 0 < n * 2 := by
    rw [← hl]; simp [ptrs]
  rw [row.cellAt 0 this]
  cases P with
  | nil => exact ⟨_, rfl⟩
  | cons x r => exact ⟨_, rfl⟩
/-- one pair more, behind the others: what append has made -/
theorem Plays.more {B : Nat} {w0 w w1 w2 : World} {g cap g2 cap2 : Nat} {P : List Pr} {y : Pr} (h : Plays B w0 w g cap P) (hb : Below w.heap.size w w1) (hy : Good w.heap.size g w1 y)
    (row : w2.ownsRow B 31 2 (.slice (some ⟨g2, 0, none⟩) (P.length + 1) cap2) (P.length + 1) (cellsOf P ++ ptrs y)) (hgr : w1.grownBy w2 (some g)) : Plays B w0 w2 g2 cap2 (P ++ [y]) := by
  have h1 := h.later hb
  have old : ∀ x : Pr, Good B g w1 x → Good B g2 w2 x := fun x k => by
    have c1 : w2.cell? x.a = some (.bool x.f) := hgr.cell k.ca (by have := k.ga; simpa using this)
    have c2 : w2.cell? x.b = some (.bool x.f) := hgr.cell k.cb (by have := k.gb; simpa using this)
    have n1 : x.na ≠ g2 := fun e => by
      obtain ⟨p, hp⟩ := row_ptr (P := P) (y := y) row
      have : x.a = ⟨g2, 0, none⟩ := by show (⟨x.na, 0, none⟩ : Addr) = _; rw [e]
      rw [this, hp] at c1; cases c1
    have n2 : x.nb ≠ g2 := fun e => by
      obtain ⟨p, hp⟩ := row_ptr (P := P) (y := y) row
      have : x.b = ⟨g2, 0, none⟩ := by show (⟨x.nb, 0, none⟩ : Addr) = _; rw [e]
      rw [this, hp] at c2; cases c2
    exact ⟨c1, c2, (World.frozen?_of_block (hgr.block _ k.lta (by have := k.ga; simpa using this))).trans k.fa, (World.frozen?_of_block (hgr.block _ k.ltb (by have := k.gb; simpa using this))).trans k.fb, k.ba, k.bb, n1, n2, k.ne⟩
  have hB : B ≤ w.heap.size := Nat.le_trans h.base h.below.size
  have ho : ∀ (i : Nat) (x : Pr), P[i]? = some x → Good B g2 w2 x := fun i x hx => old x (h1.each i x hx)
  have hyB : Good B g w1 y := ⟨hy.ca, hy.cb, hy.fa, hy.fb, Nat.le_trans hB hy.ba, Nat.le_trans hB hy.bb, hy.ga, hy.gb, hy.ne⟩
  have hyn := old y hyB
  have hsep : ∀ (i : Nat) (x : Pr), P[i]? = some x → Sep x y := fun i x hx => Fresh.sep (h.each i x hx) (Nat.le_refl _) ⟨hy⟩
  refine ⟨?_, ?_, ?_, ?_, h.base⟩
  · rw [cellsOf_append, List.length_append]
    simpa [cellsOf] using row
  · intro i x hx
    rcases Nat.lt_or_ge i P.length with g | g
    · rw [List.getElem?_append_left g] at hx; exact ho i x hx
    · rw [List.getElem?_append_right g] at hx
      have : i - P.length = 0 := by
        rcases Nat.eq_zero_or_pos (i - P.length) with q | q
        · exact q
        · rw [List.getElem?_eq_none (by simp; omega)] at hx; cases hx
      rw [this] at hx; simp at hx; subst hx; exact hyn
  · intro i j x z hx hz hij
    rcases Nat.lt_or_ge i P.length with g | g
    · rw [List.getElem?_append_left g] at hx
      rcases Nat.lt_or_ge j P.length with q | q
      · rw [List.getElem?_append_left q] at hz; exact h.sep i j x z hx hz hij
      · rw [List.getElem?_append_right q] at hz
        have : j - P.length = 0 := by
          rcases Nat.eq_zero_or_pos (j - P.length) with t | t
          · exact t
          · rw [List.getElem?_eq_none (by simp; omega)] at hz; cases hz
        rw [this] at hz; simp at hz; subst hz; exact hsep i x hx
    · rw [List.getElem?_append_right g] at hx
      have e : i - P.length = 0 := by
        rcases Nat.eq_zero_or_pos (i - P.length) with t | t
        · exact t
        · rw [List.getElem?_eq_none (by simp; omega)] at hx; cases hx
      rw [e] at hx; simp at hx; subst hx
      rcases Nat.lt_or_ge j P.length with q | q
      · rw [List.getElem?_append_left q] at hz; exact (hsep j z hz).symm
      · rw [List.getElem?_append_right q] at hz
        have : j - P.length = 0 := by
          rcases Nat.eq_zero_or_pos (j - P.length) with t | t
          · exact t
          · rw [List.getElem?_eq_none (by simp; omega)] at hz; cases hz
        omega
  · exact h1.below.trans ⟨hgr.os, hgr.tape, hgr.output, hgr.size, fun k hk => hgr.block k (by have := h1.gB; omega) (by have := h1.gB; simp; omega)⟩

theorem cellsOf_set (P : List Pr) (n : Nat) (y : Pr) (h : n < P.length) : ((cellsOf P).set (2 * n) (.pointer (some y.a))).set (2 * n + 1) (.pointer (some y.b)) = cellsOf (P.set n y) := by
  induction P generalizing n with
  | nil => simp at h
  | cons x r ih =>
    have e : cellsOf (x :: r) = .pointer (some x.a) :: .pointer (some x.b) :: cellsOf r := by simp [cellsOf, ptrs]
    cases n with
    | zero => rw [e]; simp [cellsOf, ptrs]
    | succ n =>
      have e2 : cellsOf ((x :: r).set (n + 1) y) = .pointer (some x.a) :: .pointer (some x.b) :: cellsOf (r.set n y) := by simp [cellsOf, ptrs]
      rw [e, e2, ← ih n (by simpa using h), show 2 * (n + 1) = 2 * n + 1 + 1 by omega]
      simp
theorem set_get {P : List Pr} {n i : Nat} {x y : Pr} (h : (P.set n y)[i]? = some x) : (n = i ∧ x = y ∧ n < P.length) ∨ (n ≠ i ∧ P[i]? = some x) := by
  rw [List.getElem?_set] at h
  split at h
  · rename_i e
    split at h
    · rename_i l; simp at h; exact Or.inl ⟨e, h.symm, by omega⟩
    · cases h
  · rename_i e; exact Or.inr ⟨e, h⟩
/-- a pair in the place of another -/
theorem Plays.put {B : Nat} {w0 w w1 : World} {g cap : Nat} {P : List Pr} {y : Pr} (h : Plays B w0 w g cap P) (hb : Below w.heap.size w w1) (hy : Good w.heap.size g w1 y) (n : Nat) (hn : n < P.length) :
    Plays B w0 ((w1.setCell ⟨g, 2 * n, none⟩ (.pointer (some y.a))).setCell ⟨g, 2 * n + 1, none⟩ (.pointer (some y.b))) g cap (P.set n y) := by
  have h1 := h.later hb
  have s1 := h1.row.stored (2 * n) (.pointer (some y.a))
  have s2 := s1.1.stored (2 * n + 1) (.pointer (some y.b))
  have hB : B ≤ w.heap.size := Nat.le_trans h.base h.below.size
  have old : ∀ x : Pr, Good B g w1 x → Good B g ((w1.setCell ⟨g, 2 * n, none⟩ (.pointer (some y.a))).setCell ⟨g, 2 * n + 1, none⟩ (.pointer (some y.b))) x := fun x k =>
    ⟨s2.2.cell (s1.2.cell k.ca (by have := k.ga; simpa using this)) (by have := k.ga; simpa using this), s2.2.cell (s1.2.cell k.cb (by have := k.gb; simpa using this)) (by have := k.gb; simpa using this),
     by rw [World.frozen?_setCell, World.frozen?_setCell]; exact k.fa, by rw [World.frozen?_setCell, World.frozen?_setCell]; exact k.fb, k.ba, k.bb, k.ga, k.gb, k.ne⟩
  have hyB : Good B g w1 y := ⟨hy.ca, hy.cb, hy.fa, hy.fb, Nat.le_trans hB hy.ba, Nat.le_trans hB hy.bb, hy.ga, hy.gb, hy.ne⟩
  have hsep : ∀ (i : Nat) (x : Pr), P[i]? = some x → Sep x y := fun i x hx => Fresh.sep (h.each i x hx) (Nat.le_refl _) ⟨hy⟩
  refine ⟨?_, ?_, ?_, ?_, h.base⟩
  · rw [← cellsOf_set P n y hn, List.length_set]; exact s2.1
  · intro i x hx
    rcases set_get hx with ⟨_, rfl, _⟩ | ⟨_, hx⟩
    · exact old x hyB
    · exact old x (h1.each i x hx)
  · intro i j x z hx hz hij
    rcases set_get hx with ⟨e, rfl, _⟩ | ⟨e, hx'⟩
    · rcases set_get hz with ⟨e2, rfl, _⟩ | ⟨e2, hz'⟩
      · omega
      · exact (hsep j z hz').symm
    · rcases set_get hz with ⟨e2, rfl, _⟩ | ⟨e2, hz'⟩
      · exact hsep i x hx'
      · exact h.sep i j x z hx' hz' hij
  · have b1 : Below B w1 (w1.setCell ⟨g, 2 * n, none⟩ (.pointer (some y.a))) := (Below.refl _ _).setCell h1.gB.1 _
    exact h1.below.trans (b1.setCell h1.gB.1 _)

/-- what does has done to one pair -/
theorem Plays.done {B : Nat} {w0 w w' : World} {g cap : Nat} {P : List Pr} (h : Plays B w0 w g cap P) (n : Nat) (x : Pr) (hx : P[n]? = some x) (k : Both x.a x.b w w') : ∃ f, Plays B w0 w' g cap (P.set n { x with f := f }) := by
  obtain ⟨f, wm, u1, u2⟩ := k
  have hn : n < P.length := by
    rcases Nat.lt_or_ge n P.length with q | q
    · exact q
    · rw [List.getElem?_eq_none q] at hx; cases hx
  have kx := h.each n x hx
  have kz := Nat.lt_of_lt_of_le kx.ltb u1.size
  have blk : ∀ i, i < w.heap.size → i ≠ x.na → i ≠ x.nb → w'.heap[i]? = w.heap[i]? := fun i hi h1 h2 => (u2.block i (Nat.lt_of_lt_of_le hi u1.size) h2).trans (u1.block i hi h1)
  have gx : Good B g w' { x with f := f } := ⟨(u2.other (d := x.a) (Nat.lt_of_lt_of_le kx.lta u1.size) (Ne.symm kx.ne)).trans u1.cell, u2.cell, (u2.otherF (d := x.a) (Nat.lt_of_lt_of_le kx.lta u1.size) (Ne.symm kx.ne)).trans u1.froz, u2.froz, kx.ba, kx.bb, kx.ga, kx.gb, kx.ne⟩
  have og : ∀ (i : Nat) (z : Pr), P[i]? = some z → n ≠ i → Good B g w' z := fun i z hz hi => by
    have q := h.each i z hz
    have s := h.sep i n z x hz hx (Ne.symm hi)
    have e1 := blk _ q.lta s.aa s.ab
    have e2 := blk _ q.ltb s.ba s.bb
    exact ⟨(World.cell?_of_block (w := w) e1).trans q.ca, (World.cell?_of_block (w := w) e2).trans q.cb, (World.frozen?_of_block (w := w) e1).trans q.fa, (World.frozen?_of_block (w := w) e2).trans q.fb, q.ba, q.bb, q.ga, q.gb, q.ne⟩
  have sx : ∀ (i : Nat) (z : Pr), P[i]? = some z → n ≠ i → Sep z { x with f := f } := fun i z hz hi => by
    have s := h.sep i n z x hz hx (Ne.symm hi)
    exact ⟨s.aa, s.ab, s.ba, s.bb⟩
  have ce : cellsOf (P.set n { x with f := f }) = cellsOf P := by
    rw [← cellsOf_set P n _ hn]
    have c := cellsOf_get P n x hx
    apply List.ext_getElem?
    intro i
    rw [List.getElem?_set, List.getElem?_set]
    have hlen := cellsOf_length P
    by_cases e1 : 2 * n + 1 = i
    · subst e1; rw [if_pos rfl, c.2]; simp; omega
    · rw [if_neg e1]
      by_cases e2 : 2 * n = i
      · subst e2; rw [if_pos rfl, c.1]; simp; omega
      · rw [if_neg e2]
  refine ⟨f, ?_, ?_, ?_, ?_, h.base⟩
  · rw [ce, List.length_set]
    exact ownsRow_block h.row (blk g h.gB.2 (Ne.symm kx.ga) (Ne.symm kx.gb))
  · intro i z hz
    rcases set_get hz with ⟨_, rfl, _⟩ | ⟨e, hz⟩
    · exact gx
    · exact og i z hz e
  · intro i j z v hz hv hij
    rcases set_get hz with ⟨e, rfl, _⟩ | ⟨e, hz⟩
    · rcases set_get hv with ⟨e2, rfl, _⟩ | ⟨e2, hv⟩
      · omega
      · exact (sx j v hv e2).symm
    · rcases set_get hv with ⟨e2, rfl, _⟩ | ⟨e2, hv⟩
      · exact sx i z hz e
      · exact h.sep i j z v hz hv hij
  · exact h.below.trans ⟨u2.os.trans u1.os, u2.tape.trans u1.tape, u2.output.trans u1.output, Nat.le_trans u1.size u2.size, fun i hi => blk i (by have := h.gB; omega) (by have := kx.ba; omega) (by have := kx.bb; omega)⟩
end Go.Proofs.Ytolccoghlclidaa
