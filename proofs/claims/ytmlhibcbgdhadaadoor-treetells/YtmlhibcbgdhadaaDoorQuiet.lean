/- Regions that draw and lay new blocks. -/
import Derived.Test.YtmlhibcbgdhadaaDoorMem
import Derived.Test.YtmlhibcbgdhadaaDoorProg
import Derived.Shelf.SlSortCmp.QuietGrown
namespace Go.Proofs.YtmlhibcbgdhadaaDoor
open Go.RowKit

/-- w with new blocks behind its own -/
def behind (w : World) (d : Nat) (os : Array Obj) : World := { w with heap := w.heap ++ os, drawn := d }
theorem heap_behind (w : World) (d : Nat) (os : Array Obj) : (behind w d os).heap = w.heap ++ os := rfl
theorem below_behind (w : World) (d : Nat) (os : Array Obj) : Below w.heap.size w (behind w d os) :=
  ⟨rfl, rfl, rfl, by rw [heap_behind, Array.size_append]; omega, fun k hk => by rw [heap_behind, Array.getElem?_append_left hk]⟩
theorem only_behind (w : World) (d : Nat) (os : Array Obj) : Only [] w (behind w d os) := Only.ofBelow (below_behind w d os)
theorem is_behind {w w' : World} (h : Below w.heap.size w w') : ∃ p : GrownBy, w' = behind w p.n p.os := by
  refine ⟨⟨w'.drawn, w'.heap.extract w.heap.size w'.heap.size⟩, ?_⟩
  have hh : w'.heap = w.heap ++ w'.heap.extract w.heap.size w'.heap.size := by
    apply Array.ext_getElem?
    intro i
    rcases Nat.lt_or_ge i w.heap.size with q | q
    · rw [Array.getElem?_append_left q, h.block i q]
    · rw [Array.getElem?_append_right q, Array.getElem?_extract]
      rcases Nat.lt_or_ge i w'.heap.size with z | z
      · rw [if_pos (by omega)]; congr 1; omega
      · rw [Array.getElem?_eq_none z, if_neg (by omega)]
  obtain ⟨o, t, p⟩ := (⟨h.os, h.tape, h.output⟩ : w'.os = w.os ∧ w'.tape = w.tape ∧ w'.output = w.output)
  cases w; cases w'
  simp only [behind] at *
  subst o; subst t; subst p
  rw [← hh]
theorem Calls.behind_of {P : Program} {f : FuncId} {args : Array Value} {w : World} {d : Nat} {os : Array Obj} {v : Value}
    (h : Calls P f args (behind w d os) fun e w' => e = .returned v ∧ Only [] (behind w d os) w') : Calls P f args (behind w d os) fun e w'' => e = .returned v ∧ ∃ p : GrownBy, w'' = behind w p.n p.os :=
  h.mono fun _ _ ⟨he, hb⟩ => ⟨he, is_behind ((below_behind w d os).trans (hb.below.mono (below_behind w d os).size))⟩
theorem wp_region_behind {P : Program} {id : Nat} {Q : Exit → Act → World → Prop} {a : Act} {w : World} {l : List Oper} (hm : P.follows .mixedOrders = true) (hB : Region.lexB .any l.toArray = true)
    (h : wpQuiet P l.toArray (fun w' => ∃ p : GrownBy, w' = behind w p.n p.os) (fun a' => ∀ w', (∃ p : GrownBy, w' = behind w p.n p.os) → Q .normal a' w') l a) : (Code.region id l.toArray true).wp P Q a w :=
  wp_region_quiet (C := fun w' => ∃ p : GrownBy, w' = behind w p.n p.os) hm hB (is_behind ((Below.refl _ w).drew)) (by simpa using h)
theorem cell_behind {w : World} {b o : Nat} (hb : b < w.heap.size) (d : Nat) (os : Array Obj) : (behind w d os).cell? ⟨b, o, none⟩ = w.cell? ⟨b, o, none⟩ := (below_behind w d os).cell (p := ⟨b, o, none⟩) hb

end Go.Proofs.YtmlhibcbgdhadaaDoor
