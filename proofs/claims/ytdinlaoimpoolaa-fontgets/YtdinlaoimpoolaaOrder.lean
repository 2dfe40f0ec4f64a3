/- cmp.Or of two ints; order of two pairs. -/
import Derived.Test.YtdinlaoimpoolaaSmall
import Derived.Test.YtdinlaoimpoolaaMemAll
import Derived.Sort.Grow
import Derived.Lib.SmallJoins
namespace Go.Proofs.Ytdinlaoimpoolaa
open Go.RowKit

def orI (x y : Int) : Int := if x ≠ 0 then x else y
set_option maxHeartbeats 400000 in
theorem or_any (x y : Int) (b cap : Nat) (w : World) (h : Blk w b [.int .i64 x, .int .i64 y] 3) :
    Calls Try.prog 75 #[.slice (some ⟨b, 0, none⟩) 2 cap] w fun e w' => e = .returned (.int .i64 (orI x y)) ∧ w' = w := by
  unfold orI
  have h0 : w.cell? ⟨b, 0, none⟩ = some (.int .i64 x) := h.cell 0
  have h1 : w.cell? ⟨b, 1, none⟩ = some (.int .i64 y) := h.cell 1
  clear h
  by_cases hx : x = 0
  · rw [if_neg (by simpa using hx)]
    have hx' : ¬ x ≠ 0 := by simpa using hx
    by_cases hy : y = 0
    · subst hx; subst hy
      go_enter Try.func75, Try.ntmps75
      go_wp2_with fail
      refine wp_loop_rounds 3 ?_
      rw [rounds_succ]
      go_wp2_with fail
      rw [rounds_succ]
      go_wp2_with fail
      rw [rounds_succ]
      go_wp2_with fail
      go_ret
      exact ⟨rfl, rfl⟩
    · subst hx
      go_enter Try.func75, Try.ntmps75
      go_wp2_with fail
      refine wp_loop_rounds 2 ?_
      rw [rounds_succ]
      go_wp2_with fail
      rw [rounds_succ]
      go_wp2_with fail
      go_ret
      exact ⟨rfl, rfl⟩
  · rw [if_pos hx]
    go_enter Try.func75, Try.ntmps75
    go_wp2_with fail
    refine wp_loop_rounds 1 ?_
    rw [rounds_succ]
    go_wp2_with fail
    go_ret
    exact ⟨rfl, rfl⟩
def ordI (p q : Pr) : Int := orI (cmpI p.1 q.1) (cmpI p.2.1 q.2.1)
/-- draws and new blocks alone -/
def Gr (w w' : World) : Prop := ∃ n os, w' = Go.Sort.grow (w.drewN n) os
theorem Gr.refl (w : World) : Gr w w := ⟨0, #[], by simp [Go.Sort.grow]; rfl⟩
theorem Gr.alloc {w a : World} (h : Gr w a) (o : Obj) : Gr w (a.alloc o) := by
  obtain ⟨n, os, rfl⟩ := h
  exact ⟨n, os ++ #[o], by rw [Go.Sort.alloc_eq_grow, Go.Sort.grow_grow]⟩
theorem Gr.drew {w a : World} (h : Gr w a) : Gr w a.drew := by
  obtain ⟨n, os, rfl⟩ := h
  exact ⟨n + 1, os, rfl⟩
theorem Gr.trans {a b c : World} (h : Gr a b) (k : Gr b c) : Gr a c := by
  obtain ⟨n, os, rfl⟩ := h
  obtain ⟨m, os', rfl⟩ := k
  refine ⟨n + m, os ++ os', ?_⟩
  show Go.Sort.grow (Go.Sort.grow ((a.drewN n).drewN m) os) os' = _
  rw [Go.Sort.grow_grow, World.drewN_drewN]
theorem below_drewN {B : Nat} {w a : World} (h : Below B w a) : ∀ n, Below B w (a.drewN n)
  | 0 => h
  | n + 1 => (below_drewN h n).drew
theorem Gr.below {w a : World} (h : Gr w a) : Below w.heap.size w a := by
  obtain ⟨n, os, rfl⟩ := h
  have hb := below_drewN (Below.refl w.heap.size w) n
  refine ⟨hb.os, hb.tape, hb.output, ?_, ?_⟩
  · have := hb.size
    simp only [Go.Sort.grow, Array.size_append]; omega
  · intro k hk
    have := hb.size
    simp only [Go.Sort.grow]
    rw [Array.getElem?_append_left (by omega)]
    exact hb.block k hk
set_option maxRecDepth 100000 in
set_option maxHeartbeats 2000000 in
theorem order_any (p q : Pr) (w : World) : Calls Try.prog 66 #[.agg (cp p).toArray, .agg (cp q).toArray] w fun e w' => e = .returned (.int .i64 (ordI p q)) ∧ Gr w w' := by
  obtain ⟨a0, a1, a2, a3, a4⟩ := p
  obtain ⟨b0, b1, b2, b3, b4⟩ := q
  unfold ordI
  simp only [cp]
  have A0 := Blk.new w #[.int .i64 a0, .int .i64 a1, .bool a2, .int .i64 a3, .int .i64 a4] 35 rfl
  have B0 := Blk.new (w.alloc (.cells #[.int .i64 a0, .int .i64 a1, .bool a2, .int .i64 a3, .int .i64 a4] 35)) #[.int .i64 b0, .int .i64 b1, .bool b2, .int .i64 b3, .int .i64 b4] 35 (k := w.heap.size + 1) (by simp)
  have A1 := A0.alloc (.cells #[.int .i64 b0, .int .i64 b1, .bool b2, .int .i64 b3, .int .i64 b4] 35)
  have G0 : Gr w ((w.alloc (.cells #[.int .i64 a0, .int .i64 a1, .bool a2, .int .i64 a3, .int .i64 a4] 35)).alloc (.cells #[.int .i64 b0, .int .i64 b1, .bool b2, .int .i64 b3, .int .i64 b4] 35)) := ((Gr.refl w).alloc _).alloc _
  go_enter Try.func66, Try.ntmps66
  go_wp2_with fail
  obtain ⟨W1, hW⟩ : ∃ W, ((w.alloc (.cells #[.int .i64 a0, .int .i64 a1, .bool a2, .int .i64 a3, .int .i64 a4] 35)).alloc (.cells #[.int .i64 b0, .int .i64 b1, .bool b2, .int .i64 b3, .int .i64 b4] 35)) = W := ⟨_, rfl⟩
  rw [hW] at A1 B0 G0 ⊢
  clear hW A0
  have HK : Hid (∀ W', Gr W1 W' → W'.cell? ⟨w.heap.size, 0, none⟩ = some (.int .i64 a0) ∧ W'.cell? ⟨w.heap.size, 1, none⟩ = some (.int .i64 a1) ∧ W'.cell? ⟨w.heap.size + 1, 0, none⟩ = some (.int .i64 b0) ∧ W'.cell? ⟨w.heap.size + 1, 1, none⟩ = some (.int .i64 b1) ∧ Gr W1 W') := fun W' h => by
    have a := A1.lt
    have b := B0.lt
    exact ⟨(h.below.cell (p := ⟨w.heap.size, 0, none⟩) a).trans (A1.cell 0), (h.below.cell (p := ⟨w.heap.size, 1, none⟩) a).trans (A1.cell 1), (h.below.cell (p := ⟨w.heap.size + 1, 0, none⟩) b).trans (B0.cell 0), (h.below.cell (p := ⟨w.heap.size + 1, 1, none⟩) b).trans (B0.cell 1), h⟩
  have HG : Hid (Gr w W1) := G0
  have hS0 := HK.out W1 (Gr.refl _)
  have hS1 := HK.out W1.drew (Gr.refl _).drew
  clear A1 B0 G0
  go_region_held3 (fun W' => W'.cell? ⟨w.heap.size, 0, none⟩ = some (.int .i64 a0) ∧ W'.cell? ⟨w.heap.size, 1, none⟩ = some (.int .i64 a1) ∧ W'.cell? ⟨w.heap.size + 1, 0, none⟩ = some (.int .i64 b0) ∧ W'.cell? ⟨w.heap.size + 1, 1, none⟩ = some (.int .i64 b1) ∧ Gr W1 W')
    (first | exact hS0 | exact hS1 | exact HK.out _ (by repeat (first | exact Gr.refl _ | apply Gr.drew | apply Gr.alloc)))
    (first | (go_at_call 76; refine (compare_any _ _ _).mono ?_; rintro e w' ⟨rfl, rfl⟩) | (go_at_call 75; have hq := Blk.drew (Blk.new W1 #[.int .i64 (cmpI a0 b0), .int .i64 (cmpI a1 b1)] 3 rfl); refine (or_any _ _ _ 2 _ hq).mono ?_; rintro e w' ⟨rfl, rfl⟩))
  all_goals
    go_wp2_with fail
    go_ret
    exact ⟨rfl, HG.out.trans (by repeat (first | exact Gr.refl _ | apply Gr.drew | apply Gr.alloc))⟩
end Go.Proofs.Ytdinlaoimpoolaa
