import Derived.WalkKit
import Derived.WalkSpells
import Derived.WalkLawsBesides
import Derived.Deep.QuietTactic
import Derived.BigQuiet
import Derived.Deep.DeepMust
import Derived.Deep.DeepFit
import Derived.Deep.RegionWith
import Derived.Deep.RegionHeld3
namespace Go.Proofs.Ytdinlaoimpoolaa
open Go.RowKit

/-- the whole block b: these cells, of this type, none of them frozen -/
def Blk (w : World) (b : Nat) (xs : List Value) (t : TypeId) : Prop := w.heap[b]? = some (.cells xs.toArray t (0, 0))
theorem Blk.cell {w : World} {b : Nat} {xs : List Value} {t : TypeId} (h : Blk w b xs t) (i : Nat) : w.cell? ⟨b, i, none⟩ = xs[i]? := by
  unfold Blk at h
  simp [World.cell?, h]
theorem Blk.froz {w : World} {b : Nat} {xs : List Value} {t : TypeId} (h : Blk w b xs t) (i : Nat) : w.frozen? ⟨b, i, none⟩ = false := by
  unfold Blk at h
  simp [World.frozen?, h]
theorem Blk.lt {w : World} {b : Nat} {xs : List Value} {t : TypeId} (h : Blk w b xs t) : b < w.heap.size := by
  unfold Blk at h
  rcases Nat.lt_or_ge b w.heap.size with g | g
  · exact g
  · rw [Array.getElem?_eq_none g] at h; cases h
theorem Blk.set {w : World} {b : Nat} {xs : List Value} {t : TypeId} (h : Blk w b xs t) (i : Nat) (v : Value) : Blk (w.setCell ⟨b, i, none⟩ v) b (xs.set i v) t := by
  unfold Blk at h ⊢
  simp [World.setCell, Array.getElem?_modify, h]
theorem Blk.other {w : World} {b : Nat} {xs : List Value} {t : TypeId} (h : Blk w b xs t) (a : Addr) (v : Value) (hne : b ≠ a.block) : Blk (w.setCell a v) b xs t := by
  unfold Blk at h ⊢
  rw [Below.heap_setCell _ _ _ _ hne]; exact h
theorem Blk.alloc {w : World} {b : Nat} {xs : List Value} {t : TypeId} (h : Blk w b xs t) (o : Obj) : Blk (w.alloc o) b xs t := by
  have := h.lt
  unfold Blk at h ⊢
  rw [Below.heap_alloc _ _ _ this]; exact h
theorem Blk.drew {w : World} {b : Nat} {xs : List Value} {t : TypeId} (h : Blk w b xs t) : Blk w.drew b xs t := h
theorem Blk.drewN {w : World} {b : Nat} {xs : List Value} {t : TypeId} (h : Blk w b xs t) (n : Nat) : Blk (w.drewN n) b xs t := by
  induction n with
  | zero => exact h
  | succ n ih => exact ih
theorem Blk.new (w : World) (xs : Array Value) (t : TypeId) {k : Nat} (hk : w.heap.size = k) : Blk (w.alloc (.cells xs t)) k xs.toList t := by
  subst hk
  unfold Blk World.alloc
  simp
theorem cell_past (w : World) (o : Obj) (b i : Nat) (h : b < w.heap.size) : (w.alloc o).cell? ⟨b, i, none⟩ = w.cell? ⟨b, i, none⟩ :=
  World.cell?_of_block (w := w) (Below.heap_alloc _ _ _ h)
theorem cell_past2 (w : World) (o p : Obj) (b i : Nat) (h : b < w.heap.size) : ((w.alloc o).alloc p).cell? ⟨b, i, none⟩ = w.cell? ⟨b, i, none⟩ :=
  (cell_past _ p b i (by simp; omega)).trans (cell_past w o b i h)
theorem cell_past3 (w : World) (o p q : Obj) (b i : Nat) (h : b < w.heap.size) : (((w.alloc o).alloc p).alloc q).cell? ⟨b, i, none⟩ = w.cell? ⟨b, i, none⟩ :=
  (cell_past _ q b i (by simp; omega)).trans (cell_past2 w o p b i h)
theorem cell_past4 (w : World) (o p q r : Obj) (b i : Nat) (h : b < w.heap.size) : ((((w.alloc o).alloc p).alloc q).alloc r).cell? ⟨b, i, none⟩ = w.cell? ⟨b, i, none⟩ :=
  (cell_past _ r b i (by simp; omega)).trans (cell_past3 w o p q b i h)
theorem Blk.same {w : World} {b : Nat} {xs ys : List Value} {t s : TypeId} (h : Blk w b xs t) (k : Blk w b ys s) : xs = ys ∧ t = s := by
  unfold Blk at h k
  rw [h] at k
  simp at k
  exact ⟨by simpa using k.1, k.2⟩

theorem froz_past (w : World) (o : Obj) (b i : Nat) (h : b < w.heap.size) : (w.alloc o).frozen? ⟨b, i, none⟩ = w.frozen? ⟨b, i, none⟩ :=
  World.frozen?_of_block (w := w) (Below.heap_alloc _ _ _ h)
theorem froz_past2 (w : World) (o p : Obj) (b i : Nat) (h : b < w.heap.size) : ((w.alloc o).alloc p).frozen? ⟨b, i, none⟩ = w.frozen? ⟨b, i, none⟩ :=
  (froz_past _ p b i (by simp; omega)).trans (froz_past w o b i h)
theorem froz_past3 (w : World) (o p q : Obj) (b i : Nat) (h : b < w.heap.size) : (((w.alloc o).alloc p).alloc q).frozen? ⟨b, i, none⟩ = w.frozen? ⟨b, i, none⟩ :=
  (froz_past _ q b i (by simp; omega)).trans (froz_past2 w o p b i h)
theorem froz_past4 (w : World) (o p q r : Obj) (b i : Nat) (h : b < w.heap.size) : ((((w.alloc o).alloc p).alloc q).alloc r).frozen? ⟨b, i, none⟩ = w.frozen? ⟨b, i, none⟩ :=
  (froz_past _ r b i (by simp; omega)).trans (froz_past3 w o p q b i h)

/-- of the old blocks none but those of the list has turned -/
structure Only (L : List Nat) (w w' : World) : Prop where
  os : w'.os = w.os
  tape : w'.tape = w.tape
  output : w'.output = w.output
  size : w.heap.size ≤ w'.heap.size
  block : ∀ k, k < w.heap.size → k ∉ L → w'.heap[k]? = w.heap[k]?
theorem Only.refl (L : List Nat) (w : World) : Only L w w := ⟨rfl, rfl, rfl, Nat.le_refl _, fun _ _ _ => rfl⟩
theorem Only.trans {L : List Nat} {a b c : World} (h : Only L a b) (k : Only L b c) : Only L a c :=
  ⟨k.os.trans h.os, k.tape.trans h.tape, k.output.trans h.output, Nat.le_trans h.size k.size, fun i hi hn => (k.block i (Nat.lt_of_lt_of_le hi h.size) hn).trans (h.block i hi hn)⟩
theorem Only.mono {L M : List Nat} {w w' : World} (h : Only L w w') (hs : ∀ k, k < w.heap.size → k ∈ L → k ∈ M) : Only M w w' :=
  ⟨h.os, h.tape, h.output, h.size, fun k hk hn => h.block k hk fun hm => hn (hs k hk hm)⟩
theorem Only.drew {L : List Nat} {a w : World} (h : Only L a w) : Only L a w.drew := ⟨h.os, h.tape, h.output, h.size, h.block⟩
theorem Only.drewN {L : List Nat} {a w : World} (h : Only L a w) (n : Nat) : Only L a (w.drewN n) := by
  induction n with
  | zero => exact h
  | succ n ih => exact ih.drew
theorem Only.alloc {L : List Nat} {a w : World} (h : Only L a w) (o : Obj) : Only L a (w.alloc o) :=
  h.trans ⟨rfl, rfl, rfl, by simp, fun k hk _ => Below.heap_alloc _ _ _ hk⟩
/-- a store into a block of the list, or into a block that is new -/
theorem Only.set {L : List Nat} {a w : World} (h : Only L a w) {p : Addr} (hp : p.block ∈ L ∨ a.heap.size ≤ p.block) (u : Value) : Only L a (w.setCell p u) :=
  ⟨h.os, h.tape, h.output, by simpa [World.setCell] using h.size, fun k hk hn => (Below.heap_setCell _ _ _ _ (by
    rcases hp with hp | hp
    · intro e; subst e; exact hn hp
    · omega)).trans (h.block k hk hn)⟩
theorem Only.blk {L : List Nat} {w w' : World} {b : Nat} {xs : List Value} {t : TypeId} (h : Only L w w') (k : Blk w b xs t) (hn : b ∉ L) : Blk w' b xs t := (h.block b k.lt hn).trans k
theorem Only.toBelow {L : List Nat} {w w' : World} {B : Nat} (h : Only L w w') (hB : B ≤ w.heap.size) (hL : ∀ k ∈ L, B ≤ k) : Below B w w' :=
  ⟨h.os, h.tape, h.output, h.size, fun k hk => h.block k (by omega) (fun hm => by have := hL k hm; omega)⟩
theorem Only.ofBelow {w w' : World} (h : Below w.heap.size w w') : Only [] w w' := ⟨h.os, h.tape, h.output, h.size, fun k hk _ => h.block k hk⟩
theorem Only.below {w w' : World} (h : Only [] w w') : Below w.heap.size w w' := ⟨h.os, h.tape, h.output, h.size, fun k hk => h.block k hk (by simp)⟩
/-- what follows a step that laid new blocks alone -/
theorem Only.behind {L : List Nat} {a b c : World} (h : Only [] a b) (k : Only L b c) : Only L a c := (h.mono (by simp)).trans k
/-- the list may name new blocks, too -/
theorem Only.fresh {L M : List Nat} {a b c : World} (h : Only L a b) (k : Only M b c) (hM : ∀ i ∈ M, i < a.heap.size → i ∈ L) : Only L a c :=
  ⟨k.os.trans h.os, k.tape.trans h.tape, k.output.trans h.output, Nat.le_trans h.size k.size, fun i hi hn => (k.block i (Nat.lt_of_lt_of_le hi h.size) (fun hm => hn (hM i hm hi))).trans (h.block i hi hn)⟩
end Go.Proofs.Ytdinlaoimpoolaa
namespace Go.Proofs.Ytdinlaoimpoolaa
open Go.RowKit

abbrev Gl := Int × Int × Int × Int
abbrev Pr := Int × Int × Bool × Int × Int
def cg (g : Gl) : List Value := [.int .i64 g.1, .int .i64 g.2.1, .int .i64 g.2.2.1, .int .i64 g.2.2.2]
def cp (p : Pr) : List Value := [.int .i64 p.1, .int .i64 p.2.1, .bool p.2.2.1, .int .i64 p.2.2.2.1, .int .i64 p.2.2.2.2]
theorem cg_len (g : Gl) : (cg g).length = 4 := rfl
theorem cp_len (p : Pr) : (cp p).length = 5 := rfl
/-- the cells of a list of things of k cells each -/
theorem flat_get {α : Type} {enc : α → List Value} {k : Nat} (hk : ∀ x, (enc x).length = k) {x : α} {c : Nat} (hc : c < k) : ∀ {xs : List α} {i : Nat}, xs[i]? = some x → (xs.flatMap enc)[i * k + c]? = (enc x)[c]?
  | [], i, h => by simp at h
  | y :: ys, 0, h => by
    simp at h; subst h
    rw [List.flatMap_cons, Nat.zero_mul, Nat.zero_add, List.getElem?_append_left (by rw [hk]; exact hc)]
  | y :: ys, i + 1, h => by
    rw [List.flatMap_cons, List.getElem?_append_right (by rw [hk, Nat.add_mul]; omega), hk, show (i + 1) * k + c - k = i * k + c by rw [Nat.add_mul]; omega]
    exact flat_get hk hc (by simpa using h)
theorem flat_len {α : Type} {enc : α → List Value} {k : Nat} (hk : ∀ x, (enc x).length = k) : ∀ xs : List α, (xs.flatMap enc).length = xs.length * k
  | [] => by simp
  | x :: xs => by rw [List.flatMap_cons, List.length_append, hk, flat_len hk xs, List.length_cons, Nat.add_mul]; omega

/-- from place off of block b on these cells lie -/
def At (W : World) (b off : Nat) (cs : List Value) : Prop := b < W.heap.size ∧ ∀ j u, cs[j]? = some u → W.cell? ⟨b, off + j, none⟩ = some u
theorem At.keep {L : List Nat} {W W' : World} {b off : Nat} {cs : List Value} (h : At W b off cs) (k : Only L W W') (hn : b ∉ L) : At W' b off cs :=
  ⟨Nat.lt_of_lt_of_le h.1 k.size, fun j u hj => (World.cell?_of_block (w := W) (k.block b h.1 hn)).trans (h.2 j u hj)⟩
theorem At.of {W W' : World} {b off n : Nat} {cs : List Value} (h : At W b off cs) (k : Below n W W') (hn : b < n) : At W' b off cs :=
  ⟨Nat.lt_of_lt_of_le h.1 k.size, fun j u hj => (k.cell (p := ⟨b, off + j, none⟩) hn).trans (h.2 j u hj)⟩
theorem At.take {W : World} {b off : Nat} {xs ys : List Value} (h : At W b off (xs ++ ys)) : At W b off xs :=
  ⟨h.1, fun j u hj => h.2 j u (by
    have : j < xs.length := by
      rcases Nat.lt_or_ge j xs.length with g | g
      · exact g
      · rw [List.getElem?_eq_none g] at hj; cases hj
    rw [List.getElem?_append_left this]; exact hj)⟩
/-- a slice of n things at this address reads so -/
def Sl (W : World) (ad : Option Addr) (n : Nat) (cs : List Value) : Prop := n ≠ 0 → ∃ b off, ad = some ⟨b, off, none⟩ ∧ At W b off cs
theorem Sl.keep {L : List Nat} {W W' : World} {ad : Option Addr} {n : Nat} {cs : List Value} (h : Sl W ad n cs) (k : Only L W W') (hn : ∀ b off, ad = some ⟨b, off, none⟩ → b ∉ L) : Sl W' ad n cs := fun h0 => by
  obtain ⟨b, off, e, ha⟩ := h h0
  exact ⟨b, off, e, ha.keep k (hn b off e)⟩
theorem Sl.only {W W' : World} {ad : Option Addr} {n : Nat} {cs : List Value} (h : Sl W ad n cs) (k : Only [] W W') : Sl W' ad n cs := h.keep k (fun _ _ _ => by simp)
theorem Sl.below {W W' : World} {ad : Option Addr} {n : Nat} {cs : List Value} (h : Sl W ad n cs) (k : Below W.heap.size W W') : Sl W' ad n cs := h.only (Only.ofBelow k)
theorem Sl.nil {W : World} {ad : Option Addr} {cs : List Value} : Sl W ad 0 cs := fun h => absurd rfl h

/-- a glyph's four cells -/
structure GAt (W : World) (b o : Nat) (g : Gl) : Prop where
  c0 : W.cell? ⟨b, o, none⟩ = some (.int .i64 g.1)
  c1 : W.cell? ⟨b, o + 1, none⟩ = some (.int .i64 g.2.1)
  c2 : W.cell? ⟨b, o + 2, none⟩ = some (.int .i64 g.2.2.1)
  c3 : W.cell? ⟨b, o + 3, none⟩ = some (.int .i64 g.2.2.2)
structure PAt (W : World) (b o : Nat) (p : Pr) : Prop where
  c0 : W.cell? ⟨b, o, none⟩ = some (.int .i64 p.1)
  c1 : W.cell? ⟨b, o + 1, none⟩ = some (.int .i64 p.2.1)
  c2 : W.cell? ⟨b, o + 2, none⟩ = some (.bool p.2.2.1)
  c3 : W.cell? ⟨b, o + 3, none⟩ = some (.int .i64 p.2.2.2.1)
  c4 : W.cell? ⟨b, o + 4, none⟩ = some (.int .i64 p.2.2.2.2)
theorem At.glyph {W : World} {b off : Nat} {gs : List Gl} (h : At W b off (gs.flatMap cg)) {i : Nat} {g : Gl} (hi : gs[i]? = some g) : GAt W b (off + i * 4) g := by
  have f := fun c (hc : c < 4) => flat_get (enc := cg) cg_len hc hi
  exact ⟨h.2 (i * 4) _ (f 0 (by decide)), h.2 (i * 4 + 1) _ (f 1 (by decide)), h.2 (i * 4 + 2) _ (f 2 (by decide)), h.2 (i * 4 + 3) _ (f 3 (by decide))⟩
theorem At.pair {W : World} {b off : Nat} {ps : List Pr} (h : At W b off (ps.flatMap cp)) {i : Nat} {p : Pr} (hi : ps[i]? = some p) : PAt W b (off + i * 5) p := by
  have f := fun c (hc : c < 5) => flat_get (enc := cp) cp_len hc hi
  exact ⟨h.2 (i * 5) _ (f 0 (by decide)), h.2 (i * 5 + 1) _ (f 1 (by decide)), h.2 (i * 5 + 2) _ (f 2 (by decide)), h.2 (i * 5 + 3) _ (f 3 (by decide)), h.2 (i * 5 + 4) _ (f 4 (by decide))⟩
/-- element i of a slice of glyphs -/
theorem Sl.glyph {W : World} {ad : Option Addr} {gs : List Gl} (h : Sl W ad gs.length (gs.flatMap cg)) {i : Nat} {g : Gl} (hi : gs[i]? = some g) : ∃ b off, ad = some ⟨b, off, none⟩ ∧ b < W.heap.size ∧ GAt W b (off + i * 4) g := by
  have h0 : gs.length ≠ 0 := fun e => by
    rw [List.eq_nil_of_length_eq_zero e] at hi; simp at hi
  obtain ⟨b, off, e, ha⟩ := h h0
  exact ⟨b, off, e, ha.1, ha.glyph hi⟩
theorem Sl.pair {W : World} {ad : Option Addr} {ps : List Pr} (h : Sl W ad ps.length (ps.flatMap cp)) {i : Nat} {p : Pr} (hi : ps[i]? = some p) : ∃ b off, ad = some ⟨b, off, none⟩ ∧ b < W.heap.size ∧ PAt W b (off + i * 5) p := by
  have h0 : ps.length ≠ 0 := fun e => by
    rw [List.eq_nil_of_length_eq_zero e] at hi; simp at hi
  obtain ⟨b, off, e, ha⟩ := h h0
  exact ⟨b, off, e, ha.1, ha.pair hi⟩
/-- element i of a list that has it -/
theorem some_at {α : Type} {xs : List α} {i : Nat} (h : i < xs.length) : ∃ x, xs[i]? = some x := ⟨xs[i], List.getElem?_eq_getElem h⟩
end Go.Proofs.Ytdinlaoimpoolaa
