/- Glyphs and pairs as cells; where a list of them lies. -/
import Derived.Test.YtdinlaoimpoolaaMem
namespace Go.Proofs.Ytdinlaoimpoolaa
open Go.RowKit

abbrev Gl := Int × Int × Int × Int
abbrev Pr := Int × Int × Bool × Int × Int
def cg (g : Gl) : List Value := [.int .i64 g.1, .int .i64 g.2.1, .int .i64 g.2.2.1, .int .i64 g.2.2.2]
def cp (p : Pr) : List Value := [.int .i64 p.1, .int .i64 p.2.1, .bool p.2.2.1, .int .i64 p.2.2.2.1, .int .i64 p.2.2.2.2]
theorem cg_len (g : Gl) : (cg g).length = 4 := rfl
theorem cp_len (p : Pr) : (cp p).length = 5 := rfl
/-- the cells of a list of things of k cells each -/
theorem flat_get {α : Type} {enc : α → List Value} {k : Nat} (hk : ∀ x, (enc x).length = k) {x : α} {c : Nat} (hc : c < k) : ∀ {xs : List α} {i : Nat}, xs[i]? = some x → (xs.flatMap enc)[i * k + c]? = (enc x)[c]?
  | [], i, h => by simp at h
  | y :: ys, 0, h => by
    simp at h; subst h
    rw [List.flatMap_cons, Nat.zero_mul, Nat.zero_add, List.getElem?_append_left (by rw [hk]; exact hc)]
  | y :: ys, i + 1, h => by
    rw [List.flatMap_cons, List.getElem?_append_right (by rw [hk, Nat.add_mul]; omega), hk, show (i + 1) * k + c - k = i * k + c by rw [Nat.add_mul]; omega]
    exact flat_get hk hc (by simpa using h)
theorem flat_len {α : Type} {enc : α → List Value} {k : Nat} (hk : ∀ x, (enc x).length = k) : ∀ xs : List α, (xs.flatMap enc).length = xs.length * k
  | [] => by simp
  | x :: xs => by rw [List.flatMap_cons, List.length_append, hk, flat_len hk xs, List.length_cons, Nat.add_mul]; omega

/-- from place off of block b on these cells lie -/
def At (W : World) (b off : Nat) (cs : List Value) : Prop := b < W.heap.size ∧ ∀ j u, cs[j]? = some u → W.cell? ⟨b, off + j, none⟩ = some u
theorem At.keep {L : List Nat} {W W' : World} {b off : Nat} {cs : List Value} (h : At W b off cs) (k : Only L W W') (hn : b ∉ L) : At W' b off cs :=
  ⟨Nat.lt_of_lt_of_le h.1 k.size, fun j u hj => (World.cell?_of_block (w := W) (k.block b h.1 hn)).trans (h.2 j u hj)⟩
theorem At.of {W W' : World} {b off n : Nat} {cs : List Value} (h : At W b off cs) (k : Below n W W') (hn : b < n) : At W' b off cs :=
  ⟨Nat.lt_of_lt_of_le h.1 k.size, fun j u hj => (k.cell (p := ⟨b, off + j, none⟩) hn).trans (h.2 j u hj)⟩
theorem At.take {W : World} {b off : Nat} {xs ys : List Value} (h : At W b off (xs ++ ys)) : At W b off xs :=
  ⟨h.1, fun j u hj => h.2 j u (by
    have : j < xs.length := by
      rcases Nat.lt_or_ge j xs.length with g | g
      · exact g
      · rw [List.getElem?_eq_none g] at hj; cases hj
    rw [List.getElem?_append_left this]; exact hj)⟩
/-- a slice of n things at this address reads so -/
def Sl (W : World) (ad : Option Addr) (n : Nat) (cs : List Value) : Prop := n ≠ 0 → ∃ b off, ad = some ⟨b, off, none⟩ ∧ At W b off cs
theorem Sl.keep {L : List Nat} {W W' : World} {ad : Option Addr} {n : Nat} {cs : List Value} (h : Sl W ad n cs) (k : Only L W W') (hn : ∀ b off, ad = some ⟨b, off, none⟩ → b ∉ L) : Sl W' ad n cs := fun h0 => by
  obtain ⟨b, off, e, ha⟩ := h h0
  exact ⟨b, off, e, ha.keep k (hn b off e)⟩
theorem Sl.only {W W' : World} {ad : Option Addr} {n : Nat} {cs : List Value} (h : Sl W ad n cs) (k : Only [] W W') : Sl W' ad n cs := h.keep k (fun _ _ _ => by simp)
theorem Sl.below {W W' : World} {ad : Option Addr} {n : Nat} {cs : List Value} (h : Sl W ad n cs) (k : Below W.heap.size W W') : Sl W' ad n cs := h.only (Only.ofBelow k)
theorem Sl.nil {W : World} {ad : Option Addr} {cs : List Value} : Sl W ad 0 cs := fun h => absurd rfl h

/-- a glyph's four cells -/
structure GAt (W : World) (b o : Nat) (g : Gl) : Prop where
  c0 : W.cell? ⟨b, o, none⟩ = some (.int .i64 g.1)
  c1 : W.cell? ⟨b, o + 1, none⟩ = some (.int .i64 g.2.1)
  c2 : W.cell? ⟨b, o + 2, none⟩ = some (.int .i64 g.2.2.1)
  c3 : W.cell? ⟨b, o + 3, none⟩ = some (.int .i64 g.2.2.2)
structure PAt (W : World) (b o : Nat) (p : Pr) : Prop where
  c0 : W.cell? ⟨b, o, none⟩ = some (.int .i64 p.1)
  c1 : W.cell? ⟨b, o + 1, none⟩ = some (.int .i64 p.2.1)
  c2 : W.cell? ⟨b, o + 2, none⟩ = some (.bool p.2.2.1)
  c3 : W.cell? ⟨b, o + 3, none⟩ = some (.int .i64 p.2.2.2.1)
  c4 : W.cell? ⟨b, o + 4, none⟩ = some (.int .i64 p.2.2.2.2)
theorem At.glyph {W : World} {b off : Nat} {gs : List Gl} (h : At W b off (gs.flatMap cg)) {i : Nat} {g : Gl} (hi : gs[i]? = some g) : GAt W b (off + i * 4) g := by
  have f := fun c (hc : c < 4) => flat_get (enc := cg) cg_len hc hi
  exact ⟨h.2 (i * 4) _ (f 0 (by decide)), h.2 (i * 4 + 1) _ (f 1 (by decide)), h.2 (i * 4 + 2) _ (f 2 (by decide)), h.2 (i * 4 + 3) _ (f 3 (by decide))⟩
theorem At.pair {W : World} {b off : Nat} {ps : List Pr} (h : At W b off (ps.flatMap cp)) {i : Nat} {p : Pr} (hi : ps[i]? = some p) : PAt W b (off + i * 5) p := by
  have f := fun c (hc : c < 5) => flat_get (enc := cp) cp_len hc hi
  exact ⟨h.2 (i * 5) _ (f 0 (by decide)), h.2 (i * 5 + 1) _ (f 1 (by decide)), h.2 (i * 5 + 2) _ (f 2 (by decide)), h.2 (i * 5 + 3) _ (f 3 (by decide)), h.2 (i * 5 + 4) _ (f 4 (by decide))⟩
/-- element i of a slice of glyphs -/
theorem Sl.glyph {W : World} {ad : Option Addr} {gs : List Gl} (h : Sl W ad gs.length (gs.flatMap cg)) {i : Nat} {g : Gl} (hi : gs[i]? = some g) : ∃ b off, ad = some ⟨b, off, none⟩ ∧ b < W.heap.size ∧ GAt W b (off + i * 4) g := by
  have h0 : gs.length ≠ 0 := fun e => by
    rw [List.eq_nil_of_length_eq_zero e] at hi; simp at hi
  obtain ⟨b, off, e, ha⟩ := h h0
  exact ⟨b, off, e, ha.1, ha.glyph hi⟩
theorem Sl.pair {W : World} {ad : Option Addr} {ps : List Pr} (h : Sl W ad ps.length (ps.flatMap cp)) {i : Nat} {p : Pr} (hi : ps[i]? = some p) : ∃ b off, ad = some ⟨b, off, none⟩ ∧ b < W.heap.size ∧ PAt W b (off + i * 5) p := by
  have h0 : ps.length ≠ 0 := fun e => by
    rw [List.eq_nil_of_length_eq_zero e] at hi; simp at hi
  obtain ⟨b, off, e, ha⟩ := h h0
  exact ⟨b, off, e, ha.1, ha.pair hi⟩
/-- element i of a list that has it -/
theorem some_at {α : Type} {xs : List α} {i : Nat} (h : i < xs.length) : ∃ x, xs[i]? = some x := ⟨xs[i], List.getElem?_eq_getElem h⟩
end Go.Proofs.Ytdinlaoimpoolaa
