/- The reference: a glyph looked for one by one. -/
import Derived.Test.YtdinlaoimpoolaaSame
import Derived.Test.YtdinlaoimpoolaaNew
namespace Go.Proofs.Ytdinlaoimpoolaa
open Go.RowKit

theorem lookG_next {gs : List Gl} {k : Nat} {g : Gl} {r : Int} (hg : gs[k]? = some g) (h : lookG (gs.take k) r = none) (hr : g.1 ≠ r) : lookG (gs.take (k + 1)) r = none := by
  unfold lookG at h ⊢
  rw [take_at hg, List.find?_append, h]
  simp [hr]
theorem lookG_hit {gs : List Gl} {k : Nat} {g : Gl} {r : Int} (hg : gs[k]? = some g) (h : lookG (gs.take k) r = none) (hr : g.1 = r) : gotG gs r = g ∧ hasG gs r = true := by
  have e : lookG gs r = some g := by
    unfold lookG at h ⊢
    conv => lhs; rw [← List.take_append_drop k gs]
    rw [List.find?_append, h, drop_at hg]
    simp [hr]
  unfold gotG hasG
  rw [e]
  exact ⟨rfl, rfl⟩
theorem lookG_miss {gs : List Gl} {r : Int} (h : lookG gs r = none) : gotG gs r = (0, 0, 0, 0) ∧ hasG gs r = false := by
  unfold gotG hasG
  rw [h]
  exact ⟨rfl, rfl⟩

theorem results77 {W : World} {B : Nat} {a b c d : Int} {t : Bool} (hR : Blk W B [.int .i64 a, .int .i64 b, .int .i64 c, .int .i64 d] 33) {tmps : Array Value} (h4 : tmps[4]? = some (.pointer (some ⟨B, 0, none⟩))) (h5 : tmps[5]? = some (.bool t)) :
    (results Try.f77 tmps).run Try.prog W = .ok (.tuple #[.agg #[.int .i64 a, .int .i64 b, .int .i64 c, .int .i64 d], .bool t]) W := by
  have m0 : W.cell? ⟨B, 0, none⟩ = some (.int .i64 a) := hR.cell 0
  have m1 : W.cell? ⟨B, 1, none⟩ = some (.int .i64 b) := hR.cell 1
  have m2 : W.cell? ⟨B, 2, none⟩ = some (.int .i64 c) := hR.cell 2
  have m3 : W.cell? ⟨B, 3, none⟩ = some (.int .i64 d) := hR.cell 3
  simp [results, Try.results77, go_sem, h4, h5, m0, m1, m2, m3]

set_option maxRecDepth 100000 in
set_option maxHeartbeats 4000000 in
theorem refglyph_any (em : Int) (gs : List Gl) (ag ap : Option Addr) (ca m cb : Nat) (r : Int) (w : World) (hg : gs.length ≤ 9223372036854775807) (sg : Sl w ag gs.length (gs.flatMap cg)) :
    Calls Try.prog 77 #[.agg #[.int .i64 em, .slice ag gs.length ca, .slice ap m cb], .int .i64 r] w fun e w' => e = .returned (.tuple #[.agg (cg (gotG gs r)).toArray, .bool (hasG gs r)]) ∧ Below w.heap.size w w' := by
  have HS : Hid (Sl w ag gs.length (gs.flatMap cg)) := sg
  obtain ⟨n, hne⟩ : ∃ n, gs.length = n := ⟨_, rfl⟩
  have HN := hid hne
  rw [hne] at hg ⊢
  clear sg hne
  have hgi : (n : Int) ≤ 9223372036854775807 := by omega
  have BF := (Blk.new w #[.int .i64 em, .slice ag n ca, .slice ap m cb] 25 rfl).alloc (.cells #[.int .i64 0, .int .i64 0, .int .i64 0, .int .i64 0] 33)
  have BR := Blk.new (w.alloc (.cells #[.int .i64 em, .slice ag n ca, .slice ap m cb] 25)) #[.int .i64 0, .int .i64 0, .int .i64 0, .int .i64 0] 33 (k := w.heap.size + 1) (by simp)
  have B0 : Below w.heap.size w ((w.alloc (.cells #[.int .i64 em, .slice ag n ca, .slice ap m cb] 25)).alloc (.cells #[.int .i64 0, .int .i64 0, .int .i64 0, .int .i64 0] 33)) := ((Below.refl _ w).alloc (Nat.le_refl _) _).alloc (by simp) _
  go_enter Try.func77, Try.ntmps77
  go_wp2_with fail
  obtain ⟨W, hW⟩ : ∃ W, (w.alloc (.cells #[.int .i64 em, .slice ag n ca, .slice ap m cb] 25)).alloc (.cells #[.int .i64 0, .int .i64 0, .int .i64 0, .int .i64 0] 33) = W := ⟨_, rfl⟩
  rw [hW] at BF BR B0 ⊢
  clear hW
  have k1 : W.cell? ⟨w.heap.size, 1, none⟩ = some (.slice ag n ca) := BF.cell 1
  have HB := hid B0
  have HR := hid BR
  clear BF BR B0
  have z0 : W.cell? ⟨w.heap.size + 1, 0, none⟩ = some (.int .i64 0) := HR.out.cell 0
  have z1 : W.cell? ⟨w.heap.size + 1, 1, none⟩ = some (.int .i64 0) := HR.out.cell 1
  have z2 : W.cell? ⟨w.heap.size + 1, 2, none⟩ = some (.int .i64 0) := HR.out.cell 2
  have z3 : W.cell? ⟨w.heap.size + 1, 3, none⟩ = some (.int .i64 0) := HR.out.cell 3
  have f0 := HR.out.froz 0
  have f1 := HR.out.froz 1
  have f2 := HR.out.froz 2
  have f3 := HR.out.froz 3
  go_loop [6] (fun vi => ∃ k : Nat, vi = .int .i64 k ∧ k ≤ n ∧ lookG (gs.take k) r = none) (fun vi => n - (RowKit.intOf vi).toNat)
  case atStart => exact ⟨0, rfl, by omega, rfl⟩
  case round =>
    obtain ⟨k, rfl, hk, hlk⟩ := hrel
    have HLK := hid hlk
    clear hlk
    by_cases hlt : k < n
    · obtain ⟨g, hgk⟩ := some_at (xs := gs) (i := k) (by rw [HN.out]; exact hlt)
      obtain ⟨b, off, rfl, hbl, hga⟩ := HS.out.glyph hgk
      obtain ⟨c0, c1, c2, c3⟩ := hga.below HB.out hbl
      have HGK := hid hgk
      have hli : (k : Int) < (n : Int) := by omega
      have hl0 : (0 : Int) ≤ (k : Int) := by omega
      obtain ⟨g0, g1, g2, g3⟩ := g
      simp only at c0 c1 c2 c3
      clear hgk hga
      by_cases hr : g0 = r
      · have hh := lookG_hit HGK.out HLK.out hr
        have HH := hid hh
        clear hh
        go_wp2_with fail
        refine bodyPost_ret (results77 (put4_blk HR.out _ _ _ _) rfl rfl) rfl ⟨?_, put4_below HB.out (by omega) _ _ _ _⟩
        rw [HH.out.1, HH.out.2]; subst hr; rfl
      · go_wp2_with fail
        refine ⟨⟨k + 1, by go_num, by omega, lookG_next HGK.out HLK.out hr⟩, ?_⟩
        simp [RowKit.intOf]; omega
    · have hkn : ¬ (k : Int) < (n : Int) := by omega
      have hm := lookG_miss (gs := gs) (r := r) (by have := HLK.out; rwa [List.take_of_length_le (by rw [HN.out]; omega)] at this)
      have HM := hid hm
      clear hm
      go_wp2_with fail
      refine bodyPost_ret (results77 (put4_blk HR.out _ _ _ _) rfl rfl) rfl ⟨?_, put4_below HB.out (by omega) _ _ _ _⟩
      rw [HM.out.1, HM.out.2]; rfl
end Go.Proofs.Ytdinlaoimpoolaa
