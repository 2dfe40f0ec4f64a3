/- goes, the law's own: the places and runes, the first ones. -/
import Derived.Test.YtncjadjfgbeokaaDoorCut
import Derived.Maps.AppendAt
namespace Go.Proofs.YtncjadjfgbeokaaDoor
open Go.RowKit Go.Shelf
attribute [local go_sem] Oper.semAt_some

theorem info3 : (Tryd.prog.info? 3).map (fun i => (i.zero, i.size, i.bytes)) = some (some (.int .i64 0), 1, 8) := by kernel_rfl
/-- places and runes in a row -/
def flat (xs : List (Nat × Nat)) : List Value := xs.flatMap fun x => [.int .i64 x.1, .int .i64 x.2]
theorem flat_snoc (xs : List (Nat × Nat)) (x : Nat × Nat) : flat (xs ++ [x]) = flat xs ++ [.int .i64 x.1, .int .i64 x.2] := by simp [flat]
theorem flat_length (xs : List (Nat × Nat)) : (flat xs).length = 2 * xs.length := by
  induction xs with
  | nil => rfl
  | cons x xs ih => simp [flat] at ih ⊢; omega
theorem cell_two_new (w : World) (x y : Value) (t : TypeId) {m : Nat} (hm : w.heap.size = m) : ∀ j u, [x, y][j]? = some u → (w.alloc (.cells #[x, y] t)).cell? ((⟨m, 0, none⟩ : Addr).add j) = some u := by
  subst hm
  intro j u hj
  match j, hj with
  | 0, hj => simp at hj; subst hj; simp [Addr.add]
  | 1, hj => simp at hj; subst hj; simp [Addr.add]

theorem low {W : World} {b b' : Nat} {e : TypeId} {size : Nat} {v : Value} {k : Nat} {xs : List Value} (h : W.ownsRow b e size v k xs) (hb : b' ≤ b) : W.ownsRow b' e size v k xs :=
  ⟨h.1, h.2.imp id fun ⟨g, cap, cur, h1, h2, h3⟩ => ⟨g, cap, cur, h1, Nat.le_trans hb h2, h3⟩⟩
set_option maxRecDepth 100000 in
set_option maxHeartbeats 4000000 in
theorem goes_any (s : ByteArray) (n : Int) (w : World) (hs : s.size ≤ 1099511627776) (hn0 : -9223372036854775808 ≤ n) (hn1 : n ≤ 9223372036854775807) :
    Calls Tryd.prog 11 #[.string s, .int .i64 n] w fun e w' => ∃ v, e = .returned v ∧ w'.ownsRow w.heap.size 3 1 v (2 * ((rs (bl s)).take n.toNat).length) (flat ((rs (bl s)).take n.toNat)) ∧ Below w.heap.size w w' := by
  obtain ⟨i0, hi, hz0, hz1, hz2⟩ := info_parts info3
  refine (callsIn_wide (n := 3)).1 ?_
  refine callsIn_of_wp_marks Tryd.func11 rfl trivial ?_ rfl
  simp only [Tryd.ntmps11, List.size_toArray, List.length_cons, List.length_nil, Nat.reduceAdd, Nat.reduceSub, Array.replicate_succ, Array.replicate_zero, List.push_toArray, List.append_toArray, List.nil_append, List.cons_append]
  gi_wp2_with (refine ⟨trivial, ?_⟩; gi_at_call 23; refine (callsIn_wide.2 (all_any _ _)).mono ?_; rintro e w' ⟨rfl, rfl⟩)
  have b0 := Boxed.new w 3 (.int .i64 n)
  have e0 : ((w.alloc (.cells #[.int .i64 n] 3)).alloc (.cells #[] 3)).heap[w.heap.size + 1]? = some (.cells #[] 3 (0, 0)) := by
    have := World.alloc_heap_new (w.alloc (.cells #[.int .i64 n] 3)) (.cells #[] 3)
    rwa [World.size_alloc] at this
  have b2 := Boxed.new ((w.alloc (.cells #[.int .i64 n] 3)).alloc (.cells #[] 3)) 26 (.slice (some ⟨w.heap.size + 1, 0, none⟩) 0 0)
  have b3 := Boxed.new (((w.alloc (.cells #[.int .i64 n] 3)).alloc (.cells #[] 3)).alloc (.cells #[.slice (some ⟨w.heap.size + 1, 0, none⟩) 0 0] 26)) 9 (.string s)
  rw [World.size_alloc, World.size_alloc] at b2
  rw [World.size_alloc, World.size_alloc, World.size_alloc] at b3
  have hrow0 : ((w.alloc (.cells #[.int .i64 n] 3)).alloc (.cells #[] 3)).ownsRow (w.heap.size + 1) 3 1 (.slice (some ⟨w.heap.size + 1, 0, none⟩) 0 0) 0 [] :=
    ⟨rfl, .inr ⟨_, 0, #[], rfl, Nat.le_refl _, e0, Nat.le_refl _, by decide, rfl, rfl⟩⟩
  have hB0 : Below w.heap.size w ((((w.alloc (.cells #[.int .i64 n] 3)).alloc (.cells #[] 3)).alloc (.cells #[.slice (some ⟨w.heap.size + 1, 0, none⟩) 0 0] 26)).alloc (.cells #[.string s] 9)) :=
    ((((Below.refl _ w).alloc (Nat.le_refl _) _).alloc (by simp) _).alloc (by simp; omega) _).alloc (by simp; omega) _
  refine wpIn_rangeFunc_ownG rfl (by omega) (gf := 27) (lb := #[.pointer (some ⟨w.heap.size + 1 + 1 + 1, 0, none⟩)]) rfl trivial (enters_of Tryd.func27 (by kernel_rfl) rfl)
    (all_stops _ (by omega) (w.heap.size + 1 + 1 + 1) s (by omega) _ b3) Kp.t (Kp.b (by simp)) (Below.refl _ _) (fun _ => rfl)
    (fun pre W => ((pre.length ≤ n.toNat ∧ Boxed W w.heap.size 3 (.int .i64 (n - pre.length)) ∧ Boxed W (w.heap.size + 1 + 1 + 1) 9 (.string s)) ∧ ∃ v, Boxed W (w.heap.size + 1 + 1) 26 v ∧ W.ownsRow (w.heap.size + 1) 3 1 v (2 * pre.length) (flat (pl pre)) ∧ True) ∧ Below w.heap.size w W)
    (fun c pre W => (c = .exit 0 ∧ ∃ (pr : List RN) (x : RN), pre = pr ++ [x] ∧ pr.length = n.toNat ∧ ∃ v, Boxed W (w.heap.size + 1 + 1) 26 v ∧ W.ownsRow (w.heap.size + 1) 3 1 v (2 * pr.length) (flat (pl pr)) ∧ True) ∧ Below w.heap.size w W)
    (OwnFrom.and (OwnFrom.and (Own.from (fun s A B row hs hg hr => ⟨hs.1, box_own _ _ (fun pre : List RN => .int .i64 (n - pre.length)) s A B row hs.2.1 hg hr, box_own _ _ (fun _ : List RN => .string _) s A B row hs.2.2 hg hr⟩) _) (Own.from (holdsRow_own (w.heap.size + 1) (w.heap.size + 1 + 1) 26 3 1 (fun pre : List RN => 2 * pre.length) (fun pre => flat (pl pre)) (fun _ _ => True)) _)) (ownFrom_below (Nat.le_refl _) (by simp; omega)))
    (fun c => OwnFrom.and (Own.from (fun s A B row hs hg hr => by obtain ⟨hc, pr, x, e, hl, hb⟩ := hs; exact ⟨hc, pr, x, e, hl, holdsRow_own (w.heap.size + 1) (w.heap.size + 1 + 1) 26 3 1 (fun pre : List RN => 2 * pre.length) (fun pre => flat (pl pre)) (fun _ _ => True) pr A B row hb hg hr⟩) _) (ownFrom_below (Nat.le_refl _) (by simp; omega)))
    ⟨⟨⟨Nat.zero_le _, by simpa using ((b0.alloc _).alloc _).alloc _, b3⟩, _, b2.alloc _, (hrow0.alloc _).alloc _, trivial⟩, hB0⟩
    (fun x => { tmps := #[.string s, .int .i64 n, undef, .pointer (some ⟨w.heap.size, 0, none⟩), .slice none 0 0, .pointer (some ⟨w.heap.size + 1 + 1, 0, none⟩), .int .i64 x.1.1, .int .i32 x.1.2, .slice (some ⟨w.heap.size + 1, 0, none⟩) 0 0, .string s, .func (.func 27) #[] #[.pointer (some ⟨w.heap.size + 1 + 1 + 1, 0, none⟩)], .int .i64 x.1.1, .int .i32 x.1.2, undef, undef, undef, undef, undef, undef, undef, undef, undef, undef, undef], defers := [] }) ?assign ?body ?done ?stop
  case assign =>
    intro l x W K hK
    rw [fold2]
    gi_wp2
    exact hK
  case body =>
    rintro l pre x W ⟨⟨⟨hpn, hb, hb9⟩, v, hv, hrow, _⟩, hB⟩ hlt
    have hc := hb.cell
    have hf := hb.frozen
    by_cases hz : n - (pre.length : Int) ≤ 0
    · gi_wp2
      exact ⟨KeepsFrom.refl _ _, ⟨rfl, pre, x, rfl, by omega, v, hv, hrow, trivial⟩, hB⟩
    · have hx := x.2
      have hr0 : (0 : Int) ≤ (x.1.2 : Int) := by omega
      have hr1 : (x.1.2 : Int) ≤ 1114111 := by omega
      have hb1 := hb.set (.int .i64 (n - pre.length - 1))
      have hv1 := hv.other (B' := w.heap.size) (by omega) (.int .i64 (n - pre.length - 1))
      have hrow1 : (W.setCell ⟨w.heap.size, 0, none⟩ (.int .i64 (n - pre.length - 1))).ownsRow (w.heap.size + 1) 3 1 v (2 * pre.length) (flat (pl pre)) := by
        refine hrow.kept (grownBy_setCell' W w.heap.size _) ?_
        rcases hrow.2 with ⟨rfl, _⟩ | ⟨g, cap, cur, rfl, hge, _⟩
        · exact .inl rfl
        · exact .inr (by simp [Value.ownBlock]; omega)
      have hBS : Below w.heap.size w (W.setCell ⟨w.heap.size, 0, none⟩ (.int .i64 (n - pre.length - 1))) := hB.setCell (p := ⟨w.heap.size, 0, none⟩) (Nat.le_refl _) _
      have hK1 : KeepsOthers W (W.setCell ⟨w.heap.size, 0, none⟩ (.int .i64 (n - pre.length - 1))) := KeepsOthers.setCell _ _ _
      have hb91 := hb9.other (B' := w.heap.size) (by omega) (.int .i64 (n - pre.length - 1))
      have hc1 := hv1.cell
      have hz1' : (W.setCell ⟨w.heap.size, 0, none⟩ (.int .i64 (n - pre.length - 1))).heap.size = W.heap.size := by simp [World.setCell]
      have hlb : w.heap.size + 1 ≤ W.heap.size := by have := hb.lt; omega
      gi_wp2_with (gi_at_builtin; refine wpListIn_append_own _ rfl _ _ 26 rfl (w.heap.size + 1) 3 i0 (.int .i64 0) 1 8 Tryd.underlying26 hi hz0 hz1 hz2 rfl (by decide) _ _ _ rfl (hrow1.alloc _) ⟨W.heap.size, 0, none⟩ 2 2 [.int .i64 x.1.1, .int .i64 x.1.2] rfl rfl (cell_two_new _ _ _ _ hz1') (by simp [Value.oneCell']) (by unfold maxLen; omega) (by omega) (by simp; omega) ?_; intro v' w1 hown' hgrow _; obtain ⟨g', cap', rfl⟩ := ownsRow_succ hown'; obtain ⟨hv1', hv2, hr2, hk2, hb2⟩ := hv1.appended (by decide) hrow1 (by rw [hz1']; omega) (by omega) hown' hgrow; have hc2 := hv1'.cell; have hf2 := hv1'.frozen; have hb92 := ((hb91.alloc _).kept hgrow (hb91.not_row (by decide) hrow1)).other (B' := w.heap.size + 1 + 1) (by omega) (.slice (some ⟨g', 0, none⟩) (2 * pre.length + 1 + 1) cap'))
      have hbm := boxed_below hb1 hb2 (by omega)
      refine ⟨(hK1.trans hk2).from _, ⟨(hK1.trans hk2).walks, fun _ => hb92.trans hb9.symm⟩, ⟨⟨?_, ?_, hb92⟩, _, hv2, ?_⟩, hBS.trans (hb2.mono (by omega))⟩
      · rw [List.length_append, List.length_singleton]; omega
      · rw [List.length_append, List.length_singleton, show (n - ((pre.length + 1 : Nat) : Int)) = n - pre.length - 1 by omega]
        exact hbm
      · rw [List.length_append, List.length_singleton, pl_snoc, flat_snoc]
        exact hr2
  case done =>
    rintro D ys W hD hS ⟨⟨⟨hpn, hb, hb9⟩, v, hv, hrow, _⟩, hB⟩ hK
    have hc := hv.cell
    have ht : (rs (bl s)).take n.toNat = pl ys := by
      rw [← hS]
      exact List.take_of_length_le (by rw [pl_length]; exact hpn)
    have HT : Hid ((rs (bl s)).take n.toNat = pl ys) := ht
    clear ht
    gi_wp2
    refine ⟨by simp, .inl ⟨_, _, rfl, run_takeDeferred hK, ?_⟩⟩
    refine ⟨_, results_tmp rfl _ _ _, v, rfl, ?_, hB.trans (belowK_b (w := w) (Nat.le_refl _) W D _ _ (by simp at hD; omega) hK rfl rfl)⟩
    rw [HT.out, pl_length]
    exact low (ownsRow_putObj hrow _ hK rfl) (by omega)
  case stop =>
    rintro D c pre W hD hSp ⟨⟨rfl, pr, x, rfl, hl, v, hv, hrow, _⟩, hB⟩ hK
    have hc := hv.cell
    have hpp : pl pr <+: rs (bl s) := by
      rw [pl_snoc] at hSp
      exact (List.prefix_append _ _).trans hSp
    have ht : (rs (bl s)).take n.toNat = pl pr := by
      have := List.prefix_iff_eq_take.1 hpp
      rw [pl_length, hl] at this
      exact this.symm
    have HT : Hid ((rs (bl s)).take n.toNat = pl pr) := ht
    clear ht hl
    gi_wp2
    refine ⟨by simp, .inl ⟨_, _, rfl, run_takeDeferred hK, ?_⟩⟩
    refine ⟨_, results_tmp rfl _ _ _, v, rfl, ?_, hB.trans (belowK_b (w := w) (Nat.le_refl _) W D _ _ (by simp at hD; omega) hK rfl rfl)⟩
    rw [HT.out, pl_length]
    exact low (ownsRow_putObj hrow _ hK rfl) (by omega)
end Go.Proofs.YtncjadjfgbeokaaDoor
