/- Two rows in the fields of one struct: one of them grows. -/
import Derived.Test.YtnplplhhldpgmaaAll
import Derived.Test.YtnplplhhldpgmaaSort
namespace Go.Proofs.Ytnplplhhldpgmaa
open Go.RowKit Go.Shelf

theorem blk_not_row {w : World} {b : Nat} {xs : List Value} {t : TypeId} {base size n : Nat} {e : TypeId} {v : Value} {ys : List Value} (h : Blk w b xs t) (k : w.ownsRow base e size v n ys) (hne : t ≠ e) : v.ownBlock ≠ some b := by
  rcases k.2 with ⟨rfl, _⟩ | ⟨g, cap, cur, rfl, _, hh, _⟩
  · intro e; cases e
  · intro e'
    simp only [Value.ownBlock, Option.some.injEq] at e'
    subst e'
    unfold Blk at h
    rw [hh] at h
    simp at h
    exact hne h.2.symm
theorem row_not_row {w : World} {base size size' n n' : Nat} {e e' : TypeId} {v v' : Value} {xs ys : List Value} (h : w.ownsRow base e size v n xs) (k : w.ownsRow base e' size' v' n' ys) (hne : e ≠ e') : v.ownBlock = none ∨ v.ownBlock ≠ v'.ownBlock := by
  rcases h.2 with ⟨rfl, _⟩ | ⟨g, cap, cur, rfl, _, hh, _⟩
  · exact .inl rfl
  · refine .inr fun e1 => ?_
    rcases k.2 with ⟨rfl, _⟩ | ⟨g', cap', cur', rfl, _, hh', _⟩
    · cases e1
    · simp only [Value.ownBlock, Option.some.injEq] at e1
      subst e1
      rw [hh] at hh'
      simp at hh'
      exact hne hh'.2
theorem only_grown {b : Nat} {w w' : World} (h : Only [b] w w') : w.grownBy w' (some b) := ⟨h.os, h.tape, h.output, h.size, fun k hk hn => h.block k hk (by simp only [List.mem_singleton]; intro e; subst e; exact hn rfl)⟩
theorem row_only {w w' : World} {base size n b : Nat} {e : TypeId} {v : Value} {xs : List Value} (h : w.ownsRow base e size v n xs) (k : Only [b] w w') (hn : v.ownBlock ≠ some b) : w'.ownsRow base e size v n xs := h.kept (only_grown k) (.inr hn)
theorem row_below {w w' : World} {base size n : Nat} {e : TypeId} {v : Value} {xs : List Value} (h : w.ownsRow base e size v n xs) (k : Below w.heap.size w w') : w'.ownsRow base e size v n xs :=
  h.kept (⟨k.os, k.tape, k.output, k.size, fun i hi _ => k.block i hi⟩ : w.grownBy w' none) (by
    rcases h.2 with ⟨rfl, _⟩ | ⟨g, cap, cur, rfl, _, _, _⟩
    · exact .inl rfl
    · exact .inr (by simp [Value.ownBlock]))
theorem put_field {W w1 : World} {h F c n m n2 size size2 : Nat} {e e2 : TypeId} {xs ys zs : List Value} {fs : List Value} {v v' u : Value} {tmp : Obj} (hB : Blk W F fs 25) (hF : h ≤ F) (hh : h ≤ W.heap.size) (hrow : W.ownsRow h e size v n xs) (hrow2 : W.ownsRow h e2 size2 u n2 zs)
    (he : (25 : TypeId) ≠ e) (he2 : (25 : TypeId) ≠ e2) (hee : e2 ≠ e) (hown' : w1.ownsRow h e size v' m ys) (hgrow : (W.alloc tmp).grownBy w1 v.ownBlock) :
    Blk w1 F fs 25 ∧ Blk (w1.setCell ⟨F, c, none⟩ v') F (fs.set c v') 25 ∧ (w1.setCell ⟨F, c, none⟩ v').ownsRow h e size v' m ys ∧ (w1.setCell ⟨F, c, none⟩ v').ownsRow h e2 size2 u n2 zs ∧ KeepsOthers W (w1.setCell ⟨F, c, none⟩ v') ∧ Below h W (w1.setCell ⟨F, c, none⟩ v') ∧ (∀ b zs, Blk W b zs 25 → b ≠ F → Blk (w1.setCell ⟨F, c, none⟩ v') b zs 25) := by
  have hv1 : Blk w1 F fs 25 := (hgrow.block F (hB.alloc tmp).lt (fun e' => blk_not_row hB hrow he e'.symm)).trans (hB.alloc tmp)
  have hset : Only [F] w1 (w1.setCell ⟨F, c, none⟩ v') := (Only.refl [F] w1).set (p := ⟨F, c, none⟩) (.inl (by simp)) v'
  have h2 : w1.ownsRow h e2 size2 u n2 zs := (hrow2.alloc tmp).kept hgrow (row_not_row hrow2 hrow hee)
  refine ⟨hv1, hv1.set c v', row_only hown' hset (blk_not_row hv1 hown' he), row_only h2 hset (blk_not_row hv1 h2 he2), ?_, ?_, fun b zs hb hne => hset.blk ((hgrow.block b (hb.alloc tmp).lt (fun e' => blk_not_row hb hrow he e'.symm)).trans (hb.alloc tmp)) (by simpa using hne)⟩
  · refine ((KeepsOthers.alloc W tmp).trans (KeepsOthers.of_grownBy hgrow fun j o ej hj => ?_)).trans (KeepsOthers.setCell _ _ _)
    rcases (hrow.alloc tmp).2 with ⟨rfl, _⟩ | ⟨g, cap, cur, rfl, _, hgb, _⟩
    · cases ej
    · simp only [Value.ownBlock, Option.some.injEq] at ej
      subst ej
      rw [hgb] at hj; cases hj; rfl
  · refine (((Below.refl h W).alloc hh tmp).grown hgrow (by simp; omega) (fun k hk => ?_)).setCell (p := ⟨F, c, none⟩) hF v'
    exact (hrow.lt k hk).1
end Go.Proofs.Ytnplplhhldpgmaa
