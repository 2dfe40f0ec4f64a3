import Derived.WalkKit
import Derived.WalkSpells
import Derived.WalkLawsBesides
import Derived.Deep.QuietTactic
import Derived.BigQuiet
import Derived.Deep.DeepMust
import Derived.Deep.DeepFit
import Derived.Deep.RegionWith
namespace Go.Proofs.Ytolccoghlclidaa
open Go.RowKit

/-- The cell c holds the flag b; all other old blocks are as they were. -/
structure Upd (c : Addr) (b : Bool) (w w' : World) : Prop where
  os : w'.os = w.os
  tape : w'.tape = w.tape
  output : w'.output = w.output
  size : w.heap.size ≤ w'.heap.size
  cell : w'.cell? c = some (.bool b)
  froz : w'.frozen? c = false
  block : ∀ k, k < w.heap.size → k ≠ c.block → w'.heap[k]? = w.heap[k]?

theorem Upd.refl {c : Addr} {b : Bool} {w : World} (h : w.cell? c = some (.bool b)) (hf : w.frozen? c = false) : Upd c b w w := ⟨rfl, rfl, rfl, Nat.le_refl _, h, hf, fun _ _ _ => rfl⟩
theorem Upd.trans {c : Addr} {b b' : Bool} {w w' w'' : World} (h : Upd c b w w') (k : Upd c b' w' w'') : Upd c b' w w'' :=
  ⟨k.os.trans h.os, k.tape.trans h.tape, k.output.trans h.output, Nat.le_trans h.size k.size, k.cell, k.froz, fun i hi hne => (k.block i (Nat.lt_of_lt_of_le hi h.size) hne).trans (h.block i hi hne)⟩
theorem Upd.drew {c : Addr} {b : Bool} {w w' : World} (h : Upd c b w w') : Upd c b w w'.drew := ⟨h.os, h.tape, h.output, h.size, h.cell, h.froz, h.block⟩
theorem Upd.drewN {c : Addr} {b : Bool} {w w' : World} (h : Upd c b w w') (n : Nat) : Upd c b w (w'.drewN n) := by
  induction n with
  | zero => exact h
  | succ n ih => exact ih.drew
theorem Upd.below {c : Addr} {b : Bool} {w w' w'' : World} (h : Upd c b w w') (k : Below w'.heap.size w' w'') (hc : c.block < w.heap.size) : Upd c b w w'' :=
  ⟨k.os.trans h.os, k.tape.trans h.tape, k.output.trans h.output, Nat.le_trans h.size k.size, (k.cell (Nat.lt_of_lt_of_le hc h.size)).trans h.cell, (k.frozen (Nat.lt_of_lt_of_le hc h.size)).trans h.froz, fun i hi hne => (k.block i (Nat.lt_of_lt_of_le hi h.size)).trans (h.block i hi hne)⟩
theorem Upd.of_below {c : Addr} {b : Bool} {w w' : World} (k : Below w.heap.size w w') (h : w.cell? c = some (.bool b)) (hf : w.frozen? c = false) (hc : c.block < w.heap.size) : Upd c b w w' :=
  (Upd.refl h hf).below k hc
theorem Upd.set {c : Addr} {b : Bool} {w w' : World} (h : Upd c b w w') (b' : Bool) : Upd c b' w (w'.setCell c (.bool b')) :=
  ⟨h.os, h.tape, h.output, by simp [World.setCell]; exact h.size, World.cell?_setCell_same (w := w') (a := c) (v := .bool b') h.cell, by rw [World.frozen?_setCell]; exact h.froz, fun i hi hne => (Below.heap_setCell _ _ _ _ hne).trans (h.block i hi hne)⟩
theorem Upd.alloc {c : Addr} {b : Bool} {w w' : World} (h : Upd c b w w') (hc : c.block < w.heap.size) (o : Obj) : Upd c b w (w'.alloc o) :=
  h.below ((Below.refl _ _).alloc (Nat.le_refl _) o) hc
theorem Upd.toBelow {c : Addr} {b : Bool} {w w' : World} {B : Nat} (h : Upd c b w w') (hc : B ≤ c.block) (hB : B ≤ w.heap.size) : Below B w w' :=
  ⟨h.os, h.tape, h.output, h.size, fun k hk => h.block k (by omega) (by omega)⟩
/-- a flag in another block stays -/
theorem Upd.other {c d : Addr} {b : Bool} {w w' : World} (h : Upd c b w w') (hd : d.block < w.heap.size) (hne : d.block ≠ c.block) : w'.cell? d = w.cell? d :=
  World.cell?_of_block (w := w) (h.block d.block hd hne)
theorem Upd.otherF {c d : Addr} {b : Bool} {w w' : World} (h : Upd c b w w') (hd : d.block < w.heap.size) (hne : d.block ≠ c.block) : w'.frozen? d = w.frozen? d :=
  World.frozen?_of_block (w := w) (h.block d.block hd hne)
/-- from an alloc'd world down to the world itself -/
theorem Upd.from_alloc {c : Addr} {b : Bool} {w w' : World} {o : Obj} (h : Upd c b (w.alloc o) w') : Upd c b w w' :=
  ⟨h.os, h.tape, h.output, Nat.le_trans (by simp) h.size, h.cell, h.froz, fun k hk hne => (h.block k (by simp; omega) hne).trans (Below.heap_alloc _ _ _ hk)⟩
end Go.Proofs.Ytolccoghlclidaa
