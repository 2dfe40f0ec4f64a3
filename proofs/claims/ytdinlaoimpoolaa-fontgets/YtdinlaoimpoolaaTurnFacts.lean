/- What a drawn region of FontTurned gives its proof: great, Get, two new rows. -/
import Derived.Test.YtdinlaoimpoolaaGreat
import Derived.Deep.Cut
import Derived.Deep.CutRange
import Derived.Laws.Closers25b
namespace Go.Proofs.Ytdinlaoimpoolaa
open Go.RowKit

/-- the operations of the region of this number -/
def rg (k : Nat) : Code → Option (Array Oper)
  | .region i ops _ => if i = k then some ops else none
  | .seq a b => (rg k a).orElse fun _ => rg k b
  | .cond _ a b => (rg k a).orElse fun _ => rg k b
  | .scope a => rg k a
  | .block _ a => rg k a
  | _ => none
theorem great_new (w : World) : Calls Try.prog 19 #[] w fun e w' => ∃ m, e = .returned (.pointer (some ⟨m, 0, none⟩)) ∧ Blk w' m MG.cells 72 ∧ w.heap.size ≤ m ∧ Below w.heap.size w w' :=
  (great_any w).mono fun e w' ⟨h1, h2⟩ => ⟨_, h1, by rw [h2]; exact Blk.new w _ 72 rfl, Nat.le_refl _, by rw [h2]; exact (Below.refl _ w).alloc (Nat.le_refl _) _⟩
theorem get_fault (s : ByteArray) (mb : Nat) (w : World) (x : Int × Nat) (hM : Blk w mb MG.cells 72) (hsz : s.size ≤ 9223372036854775807) (hf : fin (bl s) = .inl x) :
    Calls Try.prog 15 #[.pointer (some ⟨mb, 0, none⟩), .string s] w fun e w' => e = .returned (.tuple #[.agg #[.int .i64 0, .slice none 0 0, .slice none 0 0], .agg #[.int .i64 x.1, .int .i64 x.2]]) ∧ Only [mb] w w' :=
  (get_great s mb w hM hsz).mono fun e w' ⟨h1, h2⟩ => by rw [hf] at h2; exact ⟨h2, h1⟩

theorem Below.al {w X : World} (h : Below w.heap.size w X) (o : Obj) : Below w.heap.size w (X.alloc o) := h.alloc h.size o
theorem Below.st {w X : World} {b i : Nat} {v : Value} (h : Below w.heap.size w X) (hb : w.heap.size ≤ b) : Below w.heap.size w (X.setCell ⟨b, i, none⟩ v) := h.setCell (p := ⟨b, i, none⟩) hb v
theorem bel_then {w X Y : World} (h : Below w.heap.size w X) (k : Below X.heap.size X Y) : Below w.heap.size w Y := h.trans (k.mono h.size)
theorem bel_get {w X Y : World} {m : Nat} (h : Below w.heap.size w X) (hm : w.heap.size ≤ m) (k : Only [m] X Y) : Below w.heap.size w Y := h.trans (k.toBelow h.size (by intro i hi; rw [List.mem_singleton.1 hi]; exact hm))
theorem le_mg {w X : World} {m : Nat} (h : Below w.heap.size w X) (hg : X.heap.size ≤ m) : w.heap.size ≤ m := Nat.le_trans h.size hg
theorem blk_then {X Y : World} {b : Nat} {xs : List Value} {t : TypeId} (h : Blk X b xs t) (k : Below X.heap.size X Y) : Blk Y b xs t := h.below k
theorem blk_get {X Y : World} {m b : Nat} {xs : List Value} {t : TypeId} (h : Blk X b xs t) (k : Only [m] X Y) (hn : b ≠ m) : Blk Y b xs t := k.blk h (by simpa using hn)
theorem put2 {W : World} {b : Nat} {p q x y : Value} {t : TypeId} (h : Blk W b [p, q] t) : Blk ((W.setCell ⟨b, 0, none⟩ x).setCell ⟨b, 1, none⟩ y) b [x, y] t := (h.set 0 x).set 1 y
theorem oth {W : World} {b c i : Nat} {v : Value} {xs : List Value} {t : TypeId} (h : Blk W b xs t) (hn : b ≠ c) : Blk (W.setCell ⟨c, i, none⟩ v) b xs t := h.other ⟨c, i, none⟩ v hn
theorem q25 (w : World) : Blk (w.alloc (.cells #[.int .i64 0, .slice none 0 0, .slice none 0 0] 25)).drew w.heap.size [.int .i64 0, .slice none 0 0, .slice none 0 0] 25 := Blk.new w _ 25 rfl
theorem qq25 (w : World) : Blk ((w.alloc (.cells #[.int .i64 0, .slice none 0 0, .slice none 0 0] 25)).alloc (.cells #[.int .i64 0, .int .i64 0] 44)).drew w.heap.size [.int .i64 0, .slice none 0 0, .slice none 0 0] 25 := Blk.alloc (Blk.new w _ 25 rfl) _
theorem rr25 (w : World) : Blk ((w.alloc (.cells #[.int .i64 0, .int .i64 0] 44)).alloc (.cells #[.int .i64 0, .slice none 0 0, .slice none 0 0] 25)).drew (w.heap.size + 1) [.int .i64 0, .slice none 0 0, .slice none 0 0] 25 := Blk.new (w.alloc (.cells #[.int .i64 0, .int .i64 0] 44)) _ 25 (Array.size_push _)
theorem s25 (w : World) : Blk (w.alloc (.cells #[.int .i64 0, .slice none 0 0, .slice none 0 0] 25)) w.heap.size [.int .i64 0, .slice none 0 0, .slice none 0 0] 25 := Blk.new w _ 25 rfl
theorem ss25 (w : World) : Blk ((w.alloc (.cells #[.int .i64 0, .slice none 0 0, .slice none 0 0] 25)).alloc (.cells #[.int .i64 0, .int .i64 0] 44)) w.heap.size [.int .i64 0, .slice none 0 0, .slice none 0 0] 25 := (s25 w).alloc _
theorem tt25 (w : World) : Blk ((w.alloc (.cells #[.int .i64 0, .int .i64 0] 44)).alloc (.cells #[.int .i64 0, .slice none 0 0, .slice none 0 0] 25)) (w.heap.size + 1) [.int .i64 0, .slice none 0 0, .slice none 0 0] 25 := Blk.new (w.alloc (.cells #[.int .i64 0, .int .i64 0] 44)) _ 25 (Array.size_push _)
theorem q44 (w : World) : Blk (w.alloc (.cells #[.int .i64 0, .int .i64 0] 44)).drew w.heap.size [.int .i64 0, .int .i64 0] 44 := Blk.new w _ 44 rfl
theorem qq44 (w : World) : Blk ((w.alloc (.cells #[.int .i64 0, .int .i64 0] 44)).alloc (.cells #[.int .i64 0, .slice none 0 0, .slice none 0 0] 25)).drew w.heap.size [.int .i64 0, .int .i64 0] 44 := Blk.alloc (Blk.new w _ 44 rfl) _
theorem rr44 (w : World) : Blk ((w.alloc (.cells #[.int .i64 0, .slice none 0 0, .slice none 0 0] 25)).alloc (.cells #[.int .i64 0, .int .i64 0] 44)).drew (w.heap.size + 1) [.int .i64 0, .int .i64 0] 44 := Blk.new (w.alloc (.cells #[.int .i64 0, .slice none 0 0, .slice none 0 0] 25)) _ 44 (Array.size_push _)
theorem s44 (w : World) : Blk (w.alloc (.cells #[.int .i64 0, .int .i64 0] 44)) w.heap.size [.int .i64 0, .int .i64 0] 44 := Blk.new w _ 44 rfl
theorem ss44 (w : World) : Blk ((w.alloc (.cells #[.int .i64 0, .int .i64 0] 44)).alloc (.cells #[.int .i64 0, .slice none 0 0, .slice none 0 0] 25)) w.heap.size [.int .i64 0, .int .i64 0] 44 := (s44 w).alloc _
theorem tt44 (w : World) : Blk ((w.alloc (.cells #[.int .i64 0, .slice none 0 0, .slice none 0 0] 25)).alloc (.cells #[.int .i64 0, .int .i64 0] 44)) (w.heap.size + 1) [.int .i64 0, .int .i64 0] 44 := Blk.new (w.alloc (.cells #[.int .i64 0, .slice none 0 0, .slice none 0 0] 25)) _ 44 (Array.size_push _)
theorem pre {X Y : World} {m b : Nat} {xs : List Value} {t : TypeId} (h : Blk X b xs t) (k : Below X.heap.size X Y) (hg : X.heap.size ≤ m) : Blk Y b xs t ∧ b < m := ⟨h.below k, Nat.lt_of_lt_of_le h.lt hg⟩
end Go.Proofs.Ytdinlaoimpoolaa
