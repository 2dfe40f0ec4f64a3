/- Two rows in the fields of one struct: one of them grows. -/
import Derived.Test.YtdinlaoimpoolaaNew
namespace Go.Proofs.Ytdinlaoimpoolaa
open Go.RowKit

theorem blk_not_row {w : World} {b : Nat} {xs : List Value} {t : TypeId} {base size n : Nat} {e : TypeId} {v : Value} {ys : List Value} (h : Blk w b xs t) (k : w.ownsRow base e size v n ys) (hne : t ≠ e) : v.ownBlock ≠ some b := by
  rcases k.2 with ⟨rfl, _⟩ | ⟨g, cap, cur, rfl, _, hh, _⟩
  · intro e; cases e
  · intro e'
    simp only [Value.ownBlock, Option.some.injEq] at e'
    subst e'
    unfold Blk at h
    rw [hh] at h
    simp at h
    exact hne h.2.symm
theorem row_not_row {w : World} {base base' size size' n n' : Nat} {e e' : TypeId} {v v' : Value} {xs ys : List Value} (h : w.ownsRow base e size v n xs) (k : w.ownsRow base' e' size' v' n' ys) (hne : e ≠ e') : v.ownBlock = none ∨ v.ownBlock ≠ v'.ownBlock := by
  rcases h.2 with ⟨rfl, _⟩ | ⟨g, cap, cur, rfl, _, hh, _⟩
  · exact .inl rfl
  · refine .inr fun e1 => ?_
    rcases k.2 with ⟨rfl, _⟩ | ⟨g', cap', cur', rfl, _, hh', _⟩
    · cases e1
    · simp only [Value.ownBlock, Option.some.injEq] at e1
      subst e1
      rw [hh] at hh'
      simp at hh'
      exact hne hh'.2
theorem only_grown {b : Nat} {w w' : World} (h : Only [b] w w') : w.grownBy w' (some b) := ⟨h.os, h.tape, h.output, h.size, fun k hk hn => h.block k hk (by simp only [List.mem_singleton]; intro e; subst e; exact hn rfl)⟩
theorem row_only {w w' : World} {base size n b : Nat} {e : TypeId} {v : Value} {xs : List Value} (h : w.ownsRow base e size v n xs) (k : Only [b] w w') (hn : v.ownBlock ≠ some b) : w'.ownsRow base e size v n xs := h.kept (only_grown k) (.inr hn)
theorem row_below {w w' : World} {base size n : Nat} {e : TypeId} {v : Value} {xs : List Value} (h : w.ownsRow base e size v n xs) (k : Below w.heap.size w w') : w'.ownsRow base e size v n xs :=
  h.kept (⟨k.os, k.tape, k.output, k.size, fun i hi _ => k.block i hi⟩ : w.grownBy w' none) (by
    rcases h.2 with ⟨rfl, _⟩ | ⟨g, cap, cur, rfl, _, _, _⟩
    · exact .inl rfl
    · exact .inr (by simp [Value.ownBlock]))
end Go.Proofs.Ytdinlaoimpoolaa
