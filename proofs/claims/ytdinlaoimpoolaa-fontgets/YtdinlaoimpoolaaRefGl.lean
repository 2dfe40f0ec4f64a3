/- The reference's reader finds a glyph's number. -/
import Derived.Test.YtdinlaoimpoolaaRefNum
import Derived.Test.YtdinlaoimpoolaaRefCheckAll
namespace Go.Proofs.Ytdinlaoimpoolaa
open Go.RowKit

set_option maxRecDepth 100000 in
set_option maxHeartbeats 4000000 in
theorem gl_any (em : Int) (gs : List Gl) (ag ap : Option Addr) (ca m cb : Nat) (r : Int) (w : World) (hg : gs.length ≤ 9223372036854775807) (sg : Sl w ag gs.length (gs.flatMap cg)) :
    Calls Try.prog 62 #[.agg #[.int .i64 em, .slice ag gs.length ca, .slice ap m cb], .int .i64 r] w fun e w' => (∃ z : Int, e = .returned (.int .i64 z) ∧ ((hasG gs r = false ∧ z = -1) ∨ (hasG gs r = true ∧ ∃ k : Nat, z = k ∧ gs[k]? = some (gotG gs r)))) ∧ Below w.heap.size w w' := by
  have HS : Hid (Sl w ag gs.length (gs.flatMap cg)) := sg
  obtain ⟨n, hne⟩ : ∃ n, gs.length = n := ⟨_, rfl⟩
  have HN := hid hne
  rw [hne] at hg ⊢
  clear sg hne
  have hgi : (n : Int) ≤ 9223372036854775807 := by omega
  have BF := (Blk.new w #[.int .i64 em, .slice ag n ca, .slice ap m cb] 25 rfl)
  have B0 : Below w.heap.size w (w.alloc (.cells #[.int .i64 em, .slice ag n ca, .slice ap m cb] 25)) := (Below.refl _ w).alloc (Nat.le_refl _) _
  go_enter Try.func62, Try.ntmps62
  go_wp2_with fail
  obtain ⟨W, hW⟩ : ∃ W, w.alloc (.cells #[.int .i64 em, .slice ag n ca, .slice ap m cb] 25) = W := ⟨_, rfl⟩
  rw [hW] at BF B0 ⊢
  clear hW
  have k1 : W.cell? ⟨w.heap.size, 1, none⟩ = some (.slice ag n ca) := BF.cell 1
  have HB := hid B0
  clear BF B0
  go_loop [5] (fun vi => ∃ k : Nat, vi = .int .i64 k ∧ k ≤ n ∧ lookG (gs.take k) r = none) (fun vi => n - (RowKit.intOf vi).toNat)
  case atStart => exact ⟨0, rfl, by omega, rfl⟩
  case round =>
    obtain ⟨k, rfl, hk, hlk⟩ := hrel
    have HLK := hid hlk
    clear hlk
    by_cases hlt : k < n
    · obtain ⟨g, hgk⟩ := some_at (xs := gs) (i := k) (by rw [HN.out]; exact hlt)
      obtain ⟨b, off, rfl, hbl, hga⟩ := HS.out.glyph hgk
      obtain ⟨c0, c1, c2, c3⟩ := hga.below HB.out hbl
      have HGK := hid hgk
      have hli : (k : Int) < (n : Int) := by omega
      have hl0 : (0 : Int) ≤ (k : Int) := by omega
      obtain ⟨g0, g1, g2, g3⟩ := g
      simp only at c0 c1 c2 c3
      clear hgk hga c1 c2 c3
      by_cases hr : g0 = r
      · have hh := lookG_hit HGK.out HLK.out hr
        have HH := hid hh
        clear hh
        go_wp2_with fail
        go_ret
        exact ⟨⟨k, rfl, .inr ⟨HH.out.2, k, rfl, by rw [HH.out.1]; exact HGK.out⟩⟩, HB.out⟩
      · go_wp2_with fail
        refine ⟨⟨k + 1, by go_num, by omega, lookG_next HGK.out HLK.out hr⟩, ?_⟩
        simp [RowKit.intOf]; omega
    · have hkn : ¬ (k : Int) < (n : Int) := by omega
      have hm := lookG_miss (gs := gs) (r := r) (by have := HLK.out; rwa [List.take_of_length_le (by rw [HN.out]; omega)] at this)
      have HM := hid hm
      clear hm
      go_wp2_with fail
      go_ret
      exact ⟨⟨-1, rfl, .inl ⟨HM.out.2, rfl⟩⟩, HB.out⟩
end Go.Proofs.Ytdinlaoimpoolaa
