/- gauge: two meters tell the same; spoil: a font's rows are written over and grow. -/
import Derived.Test.YtdinlaoimpoolaaRefMeter
import Derived.Test.YtdinlaoimpoolaaApp
import Derived.Test.YtdinlaoimpoolaaClone
import Derived.Test.YtdinlaoimpoolaaRefGet0
namespace Go.Proofs.Ytdinlaoimpoolaa
open Go.RowKit

theorem stepsR_any (m : M) (b : Nat) (w : World) (h : Blk w b m.rcells 74) : Calls Try.prog 44 #[.pointer (some ⟨b, 0, none⟩)] w fun e w' => e = .returned (.int .i64 m.dn) ∧ w' = w := by
  have c0 : w.cell? ⟨b, 2, none⟩ = some (.int .i64 m.dn) := h.cell 2
  clear h
  go_enter Try.func44, Try.ntmps44
  go_wp2
  go_ret
  exact ⟨rfl, rfl⟩
theorem heldR_any (m : M) (b : Nat) (w : World) (h : Blk w b m.rcells 74) : Calls Try.prog 45 #[.pointer (some ⟨b, 0, none⟩)] w fun e w' => e = .returned (.int .i64 m.nw) ∧ w' = w := by
  have c0 : w.cell? ⟨b, 3, none⟩ = some (.int .i64 m.nw) := h.cell 3
  clear h
  go_enter Try.func45, Try.ntmps45
  go_wp2
  go_ret
  exact ⟨rfl, rfl⟩
theorem peakR_any (m : M) (b : Nat) (w : World) (h : Blk w b m.rcells 74) : Calls Try.prog 47 #[.pointer (some ⟨b, 0, none⟩)] w fun e w' => e = .returned (.int .i64 m.pk) ∧ w' = w := by
  have c0 : w.cell? ⟨b, 4, none⟩ = some (.int .i64 m.pk) := h.cell 4
  clear h
  go_enter Try.func47, Try.ntmps47
  go_wp2
  go_ret
  exact ⟨rfl, rfl⟩
set_option maxRecDepth 100000 in
set_option maxHeartbeats 4000000 in
theorem gauge_any (m : M) (b c : Nat) (w : World) (h : Blk w b m.cells 72) (k : Blk w c m.rcells 74) :
    Calls Try.prog 17 #[.pointer (some ⟨b, 0, none⟩), .pointer (some ⟨c, 0, none⟩)] w fun e w' => e = .returned (.bool true) ∧ w' = w := by
  have H1 := hid (steps_any m b w h)
  have H2 := hid (stepsR_any m c w k)
  have H3 := hid (held_any m b w h)
  have H4 := hid (heldR_any m c w k)
  have H5 := hid (peak_any m b w h)
  have H6 := hid (peakR_any m c w k)
  have H7 := hid (refused_any m b w h)
  have H8 := hid (refusedR_any m c w k)
  clear h k
  go_enter Try.func17, Try.ntmps17
  go_wp2_with (first
    | (go_at_call 21; refine H1.out.mono ?_; rintro e w' ⟨rfl, rfl⟩)
    | (go_at_call 44; refine H2.out.mono ?_; rintro e w' ⟨rfl, rfl⟩)
    | (go_at_call 22; refine H3.out.mono ?_; rintro e w' ⟨rfl, rfl⟩)
    | (go_at_call 45; refine H4.out.mono ?_; rintro e w' ⟨rfl, rfl⟩)
    | (go_at_call 46; refine H5.out.mono ?_; rintro e w' ⟨rfl, rfl⟩)
    | (go_at_call 47; refine H6.out.mono ?_; rintro e w' ⟨rfl, rfl⟩)
    | (go_at_call 33; refine H7.out.mono ?_; rintro e w' ⟨rfl, rfl⟩)
    | (go_at_call 43; refine H8.out.mono ?_; rintro e w' ⟨rfl, rfl⟩))
  go_ret
  exact ⟨rfl, rfl⟩

/-- a cell of an owned row is written -/
theorem row_put {w : World} {base size n c : Nat} {e : TypeId} {ad : Option Addr} {xs : List Value} (h : w.ownsRow base e size (.slice ad n c) n xs) {k : Nat} (hk : k < n * size) :
    ∃ b cur, ad = some ⟨b, 0, none⟩ ∧ Blk w b cur e ∧ (∃ u, w.cell? ⟨b, k, none⟩ = some u) ∧ ∀ v, (w.setCell ⟨b, k, none⟩ v).ownsRow base e size (.slice ad n c) n (xs.set k v) := by
  obtain ⟨hl, hr⟩ := h
  rcases hr with ⟨e1, e2⟩ | ⟨g, cap, cur, e1, hb, hh, hnc, hcm, hs, hx⟩
  · subst e2; omega
  · cases e1
    have hle : n * size ≤ c * size := Nat.mul_le_mul_right _ hnc
    have hB : Blk w g cur.toList e := by simpa [Blk] using hh
    have hkl : k < cur.toList.length := by simp; omega
    refine ⟨g, cur.toList, rfl, hB, ⟨_, (hB.cell k).trans (List.getElem?_eq_getElem hkl)⟩, fun v => ⟨by rw [List.length_set]; exact hl, .inr ⟨g, c, (cur.toList.set k v).toArray, rfl, hb, hB.set k v, hnc, hcm, by simp; omega, ?_⟩⟩⟩
    rw [List.take_set, hx]
theorem only_grow {L : List Nat} {w X X' : World} {v : Value} (h : Only L w X) (k : X.grownBy X' v.ownBlock) (hv : ∀ b, v.ownBlock = some b → b ∈ L ∨ w.heap.size ≤ b) : Only L w X' :=
  ⟨k.os.trans h.os, k.tape.trans h.tape, k.output.trans h.output, Nat.le_trans h.size k.size, fun q hq hn => (k.block q (Nat.lt_of_lt_of_le hq h.size) (fun e => by
    rcases hv q e.symm with q1 | q1
    · exact hn q1
    · omega)).trans (h.block q hq hn)⟩
theorem sl_newest (W : World) (cs : List Value) (t : TypeId) {k n : Nat} (hk : W.heap.size = k) : Sl (W.alloc (.cells cs.toArray t)) (some ⟨k, 0, none⟩) n cs := fun _ => by
  subst hk
  exact ⟨_, 0, rfl, by simp, fun j u hj => by
    rw [Nat.zero_add]
    exact ((Blk.new W cs.toArray t rfl).cell j).trans hj⟩
end Go.Proofs.Ytdinlaoimpoolaa
