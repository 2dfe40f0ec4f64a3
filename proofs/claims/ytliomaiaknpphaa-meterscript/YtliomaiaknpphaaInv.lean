import Derived.Test.YtliomaiaknpphaaActs
import Derived.Lib.SmallJoins
namespace Go.Proofs.Ytliomaiaknpphaa
open Go.RowKit

/-- the pairs of a script: the program's meter, the document's, and their numbers -/
structure Pr where
  na : Nat
  nb : Nat
  m : M
def Pr.a (x : Pr) : Value := .pointer (some ⟨x.na, 0, none⟩)
def Pr.b (x : Pr) : Value := .pointer (some ⟨x.nb, 0, none⟩)
/-- one pair in memory -/
structure Good (B : Nat) (w : World) (x : Pr) : Prop where
  ba : Blk w x.na x.m.cells 52
  bb : Blk w x.nb x.m.rcells 54
  ok : x.m.Ok
  la : B ≤ x.na
  lb : B ≤ x.nb
abbrev Row (w : World) (B : Nat) (t : TypeId) (g n cap : Nat) (xs : List Value) : Prop := w.ownsRow B t 1 (.slice (some ⟨g, 0, none⟩) n cap) n xs
structure Two (B : Nat) (w0 w : World) (ga ca gb cb : Nat) (P : List Pr) : Prop where
  rowA : Row w B 24 ga P.length ca (P.map Pr.a)
  rowB : Row w B 28 gb P.length cb (P.map Pr.b)
  each : ∀ (i : Nat) (x : Pr), P[i]? = some x → Good B w x
  sep : ∀ (i j : Nat) (x y : Pr), P[i]? = some x → P[j]? = some y → i ≠ j → x.na ≠ y.na ∧ x.nb ≠ y.nb
  below : Below B w0 w
  base : B ≤ w0.heap.size

theorem Row.obj {w : World} {B : Nat} {t : TypeId} {g n cap : Nat} {xs : List Value} (h : Row w B t g n cap xs) : ∃ cur, w.heap[g]? = some (.cells cur t (0, 0)) := by
  obtain ⟨_, h2⟩ := h
  rcases h2 with ⟨h, _⟩ | ⟨g', cap', cur, h3, _, h5, _⟩
  · cases h
  · have : g = g' := by simp at h3; exact h3.1
    subst this
    exact ⟨cur, h5⟩
theorem Row.lo {w : World} {B : Nat} {t : TypeId} {g n cap : Nat} {xs : List Value} (h : Row w B t g n cap xs) : B ≤ g ∧ g < w.heap.size := World.ownsRow.lt h g rfl
theorem Row.keep {w w' : World} {B : Nat} {t : TypeId} {g n cap : Nat} {xs : List Value} (h : Row w B t g n cap xs) (k : w'.heap[g]? = w.heap[g]?) : Row w' B t g n cap xs := by
  obtain ⟨h1, h2⟩ := h
  refine ⟨h1, ?_⟩
  rcases h2 with ⟨h, _⟩ | ⟨g', cap', cur, h3, h4, h5, h6⟩
  · cases h
  · refine Or.inr ⟨g', cap', cur, h3, h4, ?_, h6⟩
    have : g = g' := by simp at h3; exact h3.1
    subst this
    rw [k]; exact h5
/-- a block is no row of another type -/
theorem Row.ne_blk {w : World} {B : Nat} {t s : TypeId} {g n cap b : Nat} {xs ys : List Value} (h : Row w B t g n cap xs) (k : Blk w b ys s) (hts : s ≠ t) : b ≠ g := by
  intro e
  subst e
  obtain ⟨cur, hc⟩ := h.obj
  unfold Blk at k
  rw [hc] at k
  simp at k
  exact hts k.2.symm
theorem Row.ne_row {w : World} {B C : Nat} {t s : TypeId} {g n cap b m cap2 : Nat} {xs ys : List Value} (h : Row w B t g n cap xs) (k : Row w C s b m cap2 ys) (hts : s ≠ t) : b ≠ g := by
  intro e
  subst e
  obtain ⟨cur, hc⟩ := h.obj
  obtain ⟨cur2, hc2⟩ := k.obj
  rw [hc] at hc2
  simp at hc2
  exact hts hc2.2.symm
theorem Good.keep {L : List Nat} {B : Nat} {w w' : World} {x : Pr} (h : Good B w x) (k : Only L w w') (ha : x.na ∉ L) (hb : x.nb ∉ L) : Good B w' x := ⟨k.blk h.ba ha, k.blk h.bb hb, h.ok, h.la, h.lb⟩
theorem grown_only {w w' : World} {g : Nat} (h : w.grownBy w' (some g)) : Only [g] w w' := ⟨h.os, h.tape, h.output, h.size, fun k hk hn => h.block k hk (by simpa using hn)⟩
theorem Two.wlt {B : Nat} {w0 w : World} {ga ca gb cb : Nat} {P : List Pr} (h : Two B w0 w ga ca gb cb P) : B ≤ w.heap.size := Nat.le_trans h.base h.below.size
/-- nothing that was there has turned -/
theorem Two.later {B : Nat} {w0 w w' : World} {ga ca gb cb : Nat} {P : List Pr} (h : Two B w0 w ga ca gb cb P) (k : Only [] w w') : Two B w0 w' ga ca gb cb P :=
  ⟨h.rowA.keep (k.block _ h.rowA.lo.2 (by simp)), h.rowB.keep (k.block _ h.rowB.lo.2 (by simp)), fun i x hx => (h.each i x hx).keep k (by simp) (by simp), h.sep, h.below.trans (k.toBelow h.wlt (by simp)), h.base⟩
theorem Two.atA {B : Nat} {w0 w : World} {ga ca gb cb : Nat} {P : List Pr} (h : Two B w0 w ga ca gb cb P) (i : Nat) (x : Pr) (hx : P[i]? = some x) : w.cell? ⟨ga, i, none⟩ = some (.pointer (some ⟨x.na, 0, none⟩)) := by
  have hi : i < P.length := by
    rcases Nat.lt_or_ge i P.length with g | g
    · exact g
    · rw [List.getElem?_eq_none g] at hx; cases hx
  exact (h.rowA.cellAt i (by omega)).trans (by simp [hx, Pr.a])
theorem Two.atB {B : Nat} {w0 w : World} {ga ca gb cb : Nat} {P : List Pr} (h : Two B w0 w ga ca gb cb P) (i : Nat) (x : Pr) (hx : P[i]? = some x) : w.cell? ⟨gb, i, none⟩ = some (.pointer (some ⟨x.nb, 0, none⟩)) := by
  have hi : i < P.length := by
    rcases Nat.lt_or_ge i P.length with g | g
    · exact g
    · rw [List.getElem?_eq_none g] at hx; cases hx
  exact (h.rowB.cellAt i (by omega)).trans (by simp [hx, Pr.b])
theorem set_get {P : List Pr} {n i : Nat} {x y : Pr} (h : (P.set n y)[i]? = some x) : (n = i ∧ x = y ∧ n < P.length) ∨ (n ≠ i ∧ P[i]? = some x) := by
  rw [List.getElem?_set] at h
  split at h
  · rename_i e
    split at h
    · rename_i l; simp at h; exact Or.inl ⟨e, h.symm, by omega⟩
    · cases h
  · rename_i e; exact Or.inr ⟨e, h⟩
theorem map_set_same {P : List Pr} {f : Pr → Value} {n : Nat} {x y : Pr} (h : P[n]? = some x) (e : f y = f x) : (P.set n y).map f = P.map f := by
  apply List.ext_getElem?
  intro i
  simp only [List.getElem?_map, List.getElem?_set]
  split
  · rename_i hi
    subst hi
    have hl : n < P.length := by
      rcases Nat.lt_or_ge n P.length with g | g
      · exact g
      · rw [List.getElem?_eq_none g] at h; cases h
    rw [if_pos hl, h]
    simp [e]
  · rfl
/-- a call on each of one pair -/
theorem Two.done {B : Nat} {w0 w w' : World} {ga ca gb cb : Nat} {P : List Pr} (h : Two B w0 w ga ca gb cb P) (n : Nat) (x : Pr) (hx : P[n]? = some x) (m : M) (hm : m.Ok) (k : Only [x.na, x.nb] w w') (ka : Blk w' x.na m.cells 52) (kb : Blk w' x.nb m.rcells 54) :
    Two B w0 w' ga ca gb cb (P.set n { x with m := m }) := by
  have kx := h.each n x hx
  have na := h.rowA.ne_blk kx.ba (by decide)
  have nb := h.rowA.ne_blk kx.bb (by decide)
  have ma := h.rowB.ne_blk kx.ba (by decide)
  have mb := h.rowB.ne_blk kx.bb (by decide)
  have gx : Good B w' { x with m := m } := ⟨ka, kb, hm, kx.la, kx.lb⟩
  have og : ∀ (i : Nat) (z : Pr), P[i]? = some z → n ≠ i → Good B w' z := fun i z hz hi => by
    have q := h.each i z hz
    have s := h.sep i n z x hz hx (Ne.symm hi)
    have c1 : z.na ≠ x.nb := fun e => by have := (q.ba.same (e ▸ kx.bb)).2; revert this; decide
    have c2 : z.nb ≠ x.na := fun e => by have := (q.bb.same (e ▸ kx.ba)).2; revert this; decide
    exact q.keep k (by simp; exact ⟨s.1, c1⟩) (by simp; exact ⟨c2, s.2⟩)
  refine ⟨?_, ?_, ?_, ?_, ?_, h.base⟩
  · rw [map_set_same hx (by rfl), List.length_set]
    exact h.rowA.keep (k.block _ h.rowA.lo.2 (by simp; exact ⟨Ne.symm na, Ne.symm nb⟩))
  · rw [map_set_same hx (by rfl), List.length_set]
    exact h.rowB.keep (k.block _ h.rowB.lo.2 (by simp; exact ⟨Ne.symm ma, Ne.symm mb⟩))
  · intro i z hz
    rcases set_get hz with ⟨_, rfl, _⟩ | ⟨e, hz⟩
    · exact gx
    · exact og i z hz e
  · intro i j z v hz hv hij
    rcases set_get hz with ⟨e, rfl, _⟩ | ⟨e, hz⟩
    · rcases set_get hv with ⟨e2, rfl, _⟩ | ⟨e2, hv⟩
      · omega
      · exact h.sep n j x v hx hv e2
    · rcases set_get hv with ⟨e2, rfl, _⟩ | ⟨e2, hv⟩
      · exact h.sep i n z x hz hx (Ne.symm e)
      · exact h.sep i j z v hz hv hij
  · exact h.below.trans (k.toBelow h.wlt (by simp; exact ⟨kx.la, kx.lb⟩))
/-- the other row, when the one has grown -/
theorem Two.half {B : Nat} {w0 w w1 w2 : World} {ga ca gb cb : Nat} {P : List Pr} (h : Two B w0 w ga ca gb cb P) (k : Only [] w w1) (hg : w1.grownBy w2 (some ga)) : Row w2 B 28 gb P.length cb (P.map Pr.b) := by
  have h1 := h.later k
  exact h1.rowB.keep ((grown_only hg).block _ h1.rowB.lo.2 (by simp; exact h1.rowA.ne_row h1.rowB (by decide)))
theorem app_get {P : List Pr} {i : Nat} {x y : Pr} (h : (P ++ [y])[i]? = some x) : (i < P.length ∧ P[i]? = some x) ∨ (i = P.length ∧ x = y) := by
  rcases Nat.lt_or_ge i P.length with g | g
  · rw [List.getElem?_append_left g] at h; exact Or.inl ⟨g, h⟩
  · rw [List.getElem?_append_right g] at h
    rcases Nat.eq_zero_or_pos (i - P.length) with q | q
    · rw [q] at h; simp at h; exact Or.inr ⟨by omega, h.symm⟩
    · rw [List.getElem?_eq_none (by simp; omega)] at h; cases h
/-- a pair more: what two appends have made -/
theorem Two.more {B : Nat} {w0 w w1 w2 w3 w4 : World} {ga ca gb cb ga2 ca2 gb2 cb2 : Nat} {P : List Pr} {y : Pr} (h : Two B w0 w ga ca gb cb P) (k1 : Only [] w w1) (hy : Good w.heap.size w1 y) (hgA : w1.grownBy w2 (some ga)) (rA : Row w2 B 24 ga2 (P.length + 1) ca2 (P.map Pr.a ++ [Pr.a y]))
    (k3 : Only [] w2 w3) (hgB : w3.grownBy w4 (some gb)) (rB : Row w4 B 28 gb2 (P.length + 1) cb2 (P.map Pr.b ++ [Pr.b y])) : Two B w0 w4 ga2 ca2 gb2 cb2 (P ++ [y]) := by
  have h1 := h.later k1
  have rB3 := (h.half k1 hgA).keep (k3.block _ (h.half k1 hgA).lo.2 (by simp))
  have rA3 := rA.keep (k3.block _ rA.lo.2 (by simp))
  have go : ∀ (C : Nat) (x : Pr), Good C w1 x → Good C w4 x := fun C x q => by
    have q2 := q.keep (grown_only hgA) (by simp; exact h1.rowA.ne_blk q.ba (by decide)) (by simp; exact h1.rowA.ne_blk q.bb (by decide))
    have q3 := q2.keep k3 (by simp) (by simp)
    exact q3.keep (grown_only hgB) (by simp; exact rB3.ne_blk q3.ba (by decide)) (by simp; exact rB3.ne_blk q3.bb (by decide))
  have hyB : Good B w4 y := by
    have q := go _ _ hy
    exact ⟨q.ba, q.bb, q.ok, Nat.le_trans h.wlt q.la, Nat.le_trans h.wlt q.lb⟩
  have fresh : ∀ (i : Nat) (x : Pr), P[i]? = some x → x.na ≠ y.na ∧ x.nb ≠ y.nb := fun i x hx => by
    have q := h.each i x hx
    have a1 := q.ba.lt; have a2 := q.bb.lt; have a3 := hy.la; have a4 := hy.lb
    exact ⟨by omega, by omega⟩
  refine ⟨?_, ?_, ?_, ?_, ?_, h.base⟩
  · rw [List.length_append, List.map_append]
    exact rA3.keep ((grown_only hgB).block _ rA3.lo.2 (by simp; exact rB3.ne_row rA3 (by decide)))
  · rw [List.length_append, List.map_append]
    exact rB
  · intro i x hx
    rcases app_get hx with ⟨_, hx⟩ | ⟨_, rfl⟩
    · exact go _ _ (h1.each i x hx)
    · exact hyB
  · intro i j x z hx hz hij
    rcases app_get hx with ⟨_, hx'⟩ | ⟨_, rfl⟩
    · rcases app_get hz with ⟨_, hz⟩ | ⟨_, rfl⟩
      · exact h.sep i j x z hx' hz hij
      · exact fresh i x hx'
    · rcases app_get hz with ⟨_, hz⟩ | ⟨_, rfl⟩
      · exact ⟨Ne.symm (fresh j z hz).1, Ne.symm (fresh j z hz).2⟩
      · omega
  · have b1 := h1.below
    have b2 := (grown_only hgA).toBelow (B := B) h1.wlt (by simp; exact h1.rowA.lo.1)
    have z2 : B ≤ w2.heap.size := Nat.le_trans h1.wlt hgA.size
    have b3 := k3.toBelow (B := B) z2 (by simp)
    have b4 := (grown_only hgB).toBelow (B := B) (Nat.le_trans z2 k3.size) (by simp; exact rB3.lo.1)
    exact ((b1.trans b2).trans b3).trans b4
/-- a pair in the place of another -/
theorem Two.put {B : Nat} {w0 w w1 : World} {ga ca gb cb : Nat} {P : List Pr} {y : Pr} (h : Two B w0 w ga ca gb cb P) (k1 : Only [] w w1) (hy : Good w.heap.size w1 y) (n : Nat) :
    Two B w0 ((w1.setCell ⟨ga, n, none⟩ (Pr.a y)).setCell ⟨gb, n, none⟩ (Pr.b y)) ga ca gb cb (P.set n y) := by
  have h1 := h.later k1
  have s1 := h1.rowA.stored n (Pr.a y)
  have nab := h1.rowA.ne_row h1.rowB (by decide)
  have rB1 : Row (w1.setCell ⟨ga, n, none⟩ (Pr.a y)) B 28 gb P.length cb (P.map Pr.b) := h1.rowB.keep ((grown_only s1.2).block _ h1.rowB.lo.2 (by simp; exact nab))
  have s2 := rB1.stored n (Pr.b y)
  have go : ∀ (C : Nat) (x : Pr), Good C w1 x → Good C ((w1.setCell ⟨ga, n, none⟩ (Pr.a y)).setCell ⟨gb, n, none⟩ (Pr.b y)) x := fun C x q => by
    have q2 := q.keep (grown_only s1.2) (by simp; exact h1.rowA.ne_blk q.ba (by decide)) (by simp; exact h1.rowA.ne_blk q.bb (by decide))
    exact q2.keep (grown_only s2.2) (by simp; exact rB1.ne_blk q2.ba (by decide)) (by simp; exact rB1.ne_blk q2.bb (by decide))
  have hyB : Good B ((w1.setCell ⟨ga, n, none⟩ (Pr.a y)).setCell ⟨gb, n, none⟩ (Pr.b y)) y := by
    have q := go _ _ hy
    exact ⟨q.ba, q.bb, q.ok, Nat.le_trans h.wlt q.la, Nat.le_trans h.wlt q.lb⟩
  have fresh : ∀ (i : Nat) (x : Pr), P[i]? = some x → x.na ≠ y.na ∧ x.nb ≠ y.nb := fun i x hx => by
    have q := h.each i x hx
    have a1 := q.ba.lt; have a2 := q.bb.lt; have a3 := hy.la; have a4 := hy.lb
    exact ⟨by omega, by omega⟩
  have rA1 : Row ((w1.setCell ⟨ga, n, none⟩ (Pr.a y)).setCell ⟨gb, n, none⟩ (Pr.b y)) B 24 ga P.length ca ((P.map Pr.a).set n (Pr.a y)) := Row.keep s1.1 ((grown_only s2.2).block _ (Row.lo s1.1).2 (by simp; exact Ne.symm nab))
  refine ⟨?_, ?_, ?_, ?_, ?_, h.base⟩
  · rw [List.length_set, List.map_set]
    exact rA1
  · rw [List.length_set, List.map_set]
    exact s2.1
  · intro i x hx
    rcases set_get hx with ⟨_, rfl, _⟩ | ⟨_, hx⟩
    · exact hyB
    · exact go _ _ (h1.each i x hx)
  · intro i j x z hx hz hij
    rcases set_get hx with ⟨_, rfl, _⟩ | ⟨_, hx'⟩
    · rcases set_get hz with ⟨_, rfl, _⟩ | ⟨_, hz⟩
      · omega
      · exact ⟨Ne.symm (fresh j z hz).1, Ne.symm (fresh j z hz).2⟩
    · rcases set_get hz with ⟨_, rfl, _⟩ | ⟨_, hz⟩
      · exact fresh i x hx'
      · exact h.sep i j x z hx' hz hij
  · have b1 := h1.below
    have b2 := (grown_only s1.2).toBelow (B := B) h1.wlt (by simp; exact h1.rowA.lo.1)
    have b3 := (grown_only s2.2).toBelow (B := B) (Nat.le_trans h1.wlt s1.2.size) (by simp; exact rB1.lo.1)
    exact (b1.trans b2).trans b3
end Go.Proofs.Ytliomaiaknpphaa
