/- A function that has gone over iterators many times leaves. -/
import Derived.Test.YtnplplhhldpgmaaShown
namespace Go.Proofs.Ytnplplhhldpgmaa
open Go.RowKit Go.Shelf

abbrev mk (D : Nat) : Deferred := { target := .collected D, args := #[] }
theorem goes_end {Rb n m : Nat} {w : World} {tmps : Array Value} (h4 : tmps[4]? = some (.pointer (some ⟨Rb, 0, none⟩))) (hRn : Rb < n) (hw : w.heap.size ≤ n) : ∀ (Ds : List Nat) (W : World), W.cell? ⟨Rb, 0, none⟩ = some (.bool true) → n ≤ W.heap.size → Ds.Nodup →
    (∀ D ∈ Ds, n ≤ D ∧ W.heap[D]? = some (.deferred (some []))) → Below w.heap.size w W →
    LeavesInM Fence.wide m Try.prog Try.f4 tmps (fun e w' => e = .returned (.bool true) ∧ Below w.heap.size w w') (Ds.map mk) .returning W
  | [], W, hR, _, _, _, hb => by
    refine ⟨.bool true, ?_, rfl, hb⟩
    simp [results, Try.results4, go_sem, h4, hR]
  | D :: Ds, W, hR, hn, hd, hD, hb => by
    obtain ⟨h1, h2⟩ := hD D (by simp)
    refine ⟨by simp, .inl ⟨D, _, rfl, run_takeDeferred h2, ?_⟩⟩
    obtain ⟨hd1, hd2⟩ := List.nodup_cons.1 hd
    refine goes_end h4 hRn hw Ds _ ?_ ?_ hd2 ?_ (hb.trans (belowK_b (w := w) (Nat.le_refl _) W D _ _ (by omega) h2 rfl rfl))
    · exact cell_kept hR (grownBy_putObj' W D (.deferred none)) (fun r e => by cases e; exact ⟨_, h2, rfl⟩)
    · simpa [World.putObj] using hn
    · intro E hE
      obtain ⟨e1, e2⟩ := hD E (by simp [hE])
      exact ⟨e1, (World.putObj_heap_other (fun e : E = D => hd1 (by rw [← e]; exact hE))).trans e2⟩
end Go.Proofs.Ytnplplhhldpgmaa
