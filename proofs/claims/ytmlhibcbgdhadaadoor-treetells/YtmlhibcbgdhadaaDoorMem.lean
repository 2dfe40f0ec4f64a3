import Derived.WalkKit
import Derived.WalkSpells
import Derived.WalkLawsBesides
import Derived.Deep.QuietTactic
import Derived.BigQuiet
import Derived.Deep.DeepMust
import Derived.Deep.DeepFit
import Derived.Deep.RegionWith
import Derived.Deep.RegionHeld3
namespace Go.Proofs.YtmlhibcbgdhadaaDoor
open Go.RowKit

/-- the whole block b: these cells, of this type, none of them frozen -/
def Blk (w : World) (b : Nat) (xs : List Value) (t : TypeId) : Prop := w.heap[b]? = some (.cells xs.toArray t (0, 0))
theorem Blk.cell {w : World} {b : Nat} {xs : List Value} {t : TypeId} (h : Blk w b xs t) (i : Nat) : w.cell? ⟨b, i, none⟩ = xs[i]? := by
  unfold Blk at h
  simp [World.cell?, h]
theorem Blk.froz {w : World} {b : Nat} {xs : List Value} {t : TypeId} (h : Blk w b xs t) (i : Nat) : w.frozen? ⟨b, i, none⟩ = false := by
  unfold Blk at h
  simp [World.frozen?, h]
theorem Blk.lt {w : World} {b : Nat} {xs : List Value} {t : TypeId} (h : Blk w b xs t) : b < w.heap.size := by
  unfold Blk at h
  rcases Nat.lt_or_ge b w.heap.size with g | g
  · exact g
  · rw [Array.getElem?_eq_none g] at h; cases h
theorem Blk.set {w : World} {b : Nat} {xs : List Value} {t : TypeId} (h : Blk w b xs t) (i : Nat) (v : Value) : Blk (w.setCell ⟨b, i, none⟩ v) b (xs.set i v) t := by
  unfold Blk at h ⊢
  simp [World.setCell, Array.getElem?_modify, h]
theorem Blk.other {w : World} {b : Nat} {xs : List Value} {t : TypeId} (h : Blk w b xs t) (a : Addr) (v : Value) (hne : b ≠ a.block) : Blk (w.setCell a v) b xs t := by
  unfold Blk at h ⊢
  rw [Below.heap_setCell _ _ _ _ hne]; exact h
theorem Blk.alloc {w : World} {b : Nat} {xs : List Value} {t : TypeId} (h : Blk w b xs t) (o : Obj) : Blk (w.alloc o) b xs t := by
  have := h.lt
  unfold Blk at h ⊢
  rw [Below.heap_alloc _ _ _ this]; exact h
theorem Blk.drew {w : World} {b : Nat} {xs : List Value} {t : TypeId} (h : Blk w b xs t) : Blk w.drew b xs t := h
theorem Blk.drewN {w : World} {b : Nat} {xs : List Value} {t : TypeId} (h : Blk w b xs t) (n : Nat) : Blk (w.drewN n) b xs t := by
  induction n with
  | zero => exact h
  | succ n ih => exact ih
theorem Blk.new (w : World) (xs : Array Value) (t : TypeId) {k : Nat} (hk : w.heap.size = k) : Blk (w.alloc (.cells xs t)) k xs.toList t := by
  subst hk
  unfold Blk World.alloc
  simp
theorem cell_past (w : World) (o : Obj) (b i : Nat) (h : b < w.heap.size) : (w.alloc o).cell? ⟨b, i, none⟩ = w.cell? ⟨b, i, none⟩ :=
  World.cell?_of_block (w := w) (Below.heap_alloc _ _ _ h)
theorem cell_past2 (w : World) (o p : Obj) (b i : Nat) (h : b < w.heap.size) : ((w.alloc o).alloc p).cell? ⟨b, i, none⟩ = w.cell? ⟨b, i, none⟩ :=
  (cell_past _ p b i (by simp; omega)).trans (cell_past w o b i h)
theorem cell_past3 (w : World) (o p q : Obj) (b i : Nat) (h : b < w.heap.size) : (((w.alloc o).alloc p).alloc q).cell? ⟨b, i, none⟩ = w.cell? ⟨b, i, none⟩ :=
  (cell_past _ q b i (by simp; omega)).trans (cell_past2 w o p b i h)
theorem cell_past4 (w : World) (o p q r : Obj) (b i : Nat) (h : b < w.heap.size) : ((((w.alloc o).alloc p).alloc q).alloc r).cell? ⟨b, i, none⟩ = w.cell? ⟨b, i, none⟩ :=
  (cell_past _ r b i (by simp; omega)).trans (cell_past3 w o p q b i h)
theorem Blk.same {w : World} {b : Nat} {xs ys : List Value} {t s : TypeId} (h : Blk w b xs t) (k : Blk w b ys s) : xs = ys ∧ t = s := by
  unfold Blk at h k
  rw [h] at k
  simp at k
  exact ⟨by simpa using k.1, k.2⟩

theorem froz_past (w : World) (o : Obj) (b i : Nat) (h : b < w.heap.size) : (w.alloc o).frozen? ⟨b, i, none⟩ = w.frozen? ⟨b, i, none⟩ :=
  World.frozen?_of_block (w := w) (Below.heap_alloc _ _ _ h)
theorem froz_past2 (w : World) (o p : Obj) (b i : Nat) (h : b < w.heap.size) : ((w.alloc o).alloc p).frozen? ⟨b, i, none⟩ = w.frozen? ⟨b, i, none⟩ :=
  (froz_past _ p b i (by simp; omega)).trans (froz_past w o b i h)
theorem froz_past3 (w : World) (o p q : Obj) (b i : Nat) (h : b < w.heap.size) : (((w.alloc o).alloc p).alloc q).frozen? ⟨b, i, none⟩ = w.frozen? ⟨b, i, none⟩ :=
  (froz_past _ q b i (by simp; omega)).trans (froz_past2 w o p b i h)
theorem froz_past4 (w : World) (o p q r : Obj) (b i : Nat) (h : b < w.heap.size) : ((((w.alloc o).alloc p).alloc q).alloc r).frozen? ⟨b, i, none⟩ = w.frozen? ⟨b, i, none⟩ :=
  (froz_past _ r b i (by simp; omega)).trans (froz_past3 w o p q b i h)

/-- of the old blocks none but those of the list has turned -/
structure Only (L : List Nat) (w w' : World) : Prop where
  os : w'.os = w.os
  tape : w'.tape = w.tape
  output : w'.output = w.output
  size : w.heap.size ≤ w'.heap.size
  block : ∀ k, k < w.heap.size → k ∉ L → w'.heap[k]? = w.heap[k]?
theorem Only.refl (L : List Nat) (w : World) : Only L w w := ⟨rfl, rfl, rfl, Nat.le_refl _, fun _ _ _ => rfl⟩
theorem Only.trans {L : List Nat} {a b c : World} (h : Only L a b) (k : Only L b c) : Only L a c :=
  ⟨k.os.trans h.os, k.tape.trans h.tape, k.output.trans h.output, Nat.le_trans h.size k.size, fun i hi hn => (k.block i (Nat.lt_of_lt_of_le hi h.size) hn).trans (h.block i hi hn)⟩
theorem Only.mono {L M : List Nat} {w w' : World} (h : Only L w w') (hs : ∀ k, k < w.heap.size → k ∈ L → k ∈ M) : Only M w w' :=
  ⟨h.os, h.tape, h.output, h.size, fun k hk hn => h.block k hk fun hm => hn (hs k hk hm)⟩
theorem Only.drew {L : List Nat} {a w : World} (h : Only L a w) : Only L a w.drew := ⟨h.os, h.tape, h.output, h.size, h.block⟩
theorem Only.drewN {L : List Nat} {a w : World} (h : Only L a w) (n : Nat) : Only L a (w.drewN n) := by
  induction n with
  | zero => exact h
  | succ n ih => exact ih.drew
theorem Only.alloc {L : List Nat} {a w : World} (h : Only L a w) (o : Obj) : Only L a (w.alloc o) :=
  h.trans ⟨rfl, rfl, rfl, by simp, fun k hk _ => Below.heap_alloc _ _ _ hk⟩
/-- a store into a block of the list, or into a block that is new -/
theorem Only.set {L : List Nat} {a w : World} (h : Only L a w) {p : Addr} (hp : p.block ∈ L ∨ a.heap.size ≤ p.block) (u : Value) : Only L a (w.setCell p u) :=
  ⟨h.os, h.tape, h.output, by simpa [World.setCell] using h.size, fun k hk hn => (Below.heap_setCell _ _ _ _ (by
    rcases hp with hp | hp
    · intro e; subst e; exact hn hp
    · omega)).trans (h.block k hk hn)⟩
theorem Only.blk {L : List Nat} {w w' : World} {b : Nat} {xs : List Value} {t : TypeId} (h : Only L w w') (k : Blk w b xs t) (hn : b ∉ L) : Blk w' b xs t := (h.block b k.lt hn).trans k
theorem Only.toBelow {L : List Nat} {w w' : World} {B : Nat} (h : Only L w w') (hB : B ≤ w.heap.size) (hL : ∀ k ∈ L, B ≤ k) : Below B w w' :=
  ⟨h.os, h.tape, h.output, h.size, fun k hk => h.block k (by omega) (fun hm => by have := hL k hm; omega)⟩
theorem Only.ofBelow {w w' : World} (h : Below w.heap.size w w') : Only [] w w' := ⟨h.os, h.tape, h.output, h.size, fun k hk _ => h.block k hk⟩
theorem Only.below {w w' : World} (h : Only [] w w') : Below w.heap.size w w' := ⟨h.os, h.tape, h.output, h.size, fun k hk => h.block k hk (by simp)⟩
/-- what follows a step that laid new blocks alone -/
theorem Only.behind {L : List Nat} {a b c : World} (h : Only [] a b) (k : Only L b c) : Only L a c := (h.mono (by simp)).trans k
/-- the list may name new blocks, too -/
theorem Only.fresh {L M : List Nat} {a b c : World} (h : Only L a b) (k : Only M b c) (hM : ∀ i ∈ M, i < a.heap.size → i ∈ L) : Only L a c :=
  ⟨k.os.trans h.os, k.tape.trans h.tape, k.output.trans h.output, Nat.le_trans h.size k.size, fun i hi hn => (k.block i (Nat.lt_of_lt_of_le hi h.size) (fun hm => hn (hM i hm hi))).trans (h.block i hi hn)⟩
end Go.Proofs.YtmlhibcbgdhadaaDoor
