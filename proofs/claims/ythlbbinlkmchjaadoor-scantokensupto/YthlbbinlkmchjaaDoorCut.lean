/- Cut. -/
import Derived.Test.YthlbbinlkmchjaaDoorCount
import Derived.Sort.QuietIn
namespace Go.Proofs.YthlbbinlkmchjaaDoor
open Go.RowKit Go.Shelf
attribute [local go_sem] Oper.semAt_some

theorem widthR_le (r : Nat) : widthR r ≤ 4 := by
  unfold widthR; repeat' split
  all_goals omega
theorem pl_take {pre : List RN} {l : List Nat} {k : Nat} (h : pl pre <+: rs l) (hk : pre.length = k) : pl pre = rl k 0 l := by
  have h1 := List.prefix_iff_eq_take.1 h
  have hle := h.length_le
  rw [pl_length, hk] at hle
  rw [pl_length, hk] at h1
  rw [h1]
  unfold rs at *
  rw [rl_take, Nat.min_eq_left]
  have := rl_length_le l.length 0 l
  omega
/-- the number of runes asked for, or all -/
theorem pl_all {pre : List RN} {l : List Nat} {k : Nat} (h : pl pre = rs l) (hk : pre.length ≤ k) : ends (pl pre) = pos k l := by
  rw [h, ← (rl_own l).1, ends_rl0, (rl_own l).2]
  have h2 : (rs l).length ≤ k := by rw [← h, pl_length]; exact hk
  obtain ⟨j, rfl⟩ : ∃ j, k = (rs l).length + j := ⟨k - (rs l).length, by omega⟩
  have := rl_stop (k := (rs l).length) (l := l) j 0 (by rw [(rl_own l).1]) (by rw [(rl_own l).2]; exact bad_end l)
  rw [this.2, (rl_own l).2]

theorem drewN_heap (W : World) (k : Nat) : (W.drewN k).heap = W.heap := by
  induction k with
  | zero => rfl
  | succ k ih => exact ih
set_option maxRecDepth 100000 in
set_option maxHeartbeats 4000000 in
theorem cut_any (s : ByteArray) (n : Int) (w : World) (hs : s.size ≤ 1152921504606846976) (hn0 : -9223372036854775808 ≤ n) (hn1 : n ≤ 9223372036854775807) :
    Calls Tryd.prog 64 #[.string s, .int .i64 n] w fun e w' => e = .returned (.tuple #[.string (s.extract 0 (pos n.toNat (bl s))), .string (s.extract (pos n.toNat (bl s)) s.size)]) ∧ Below w.heap.size w w' := by
  refine (callsIn_wide (n := 3)).1 ?_
  refine callsIn_of_wp_marks Tryd.func64 rfl trivial ?_ rfl
  simp only [Tryd.ntmps64, List.size_toArray, List.length_cons, List.length_nil, Nat.reduceAdd, Nat.reduceSub, Array.replicate_succ, Array.replicate_zero, List.push_toArray, List.append_toArray, List.nil_append, List.cons_append]
  gi_wp2_with (refine ⟨trivial, ?_⟩; gi_at_call 45; refine (callsIn_wide.2 (all_any _ _)).mono ?_; rintro e w' ⟨rfl, rfl⟩)
  have b0 := Boxed.new w 3 (.int .i64 n)
  have b1 := Boxed.new (w.alloc (.cells #[.int .i64 n] 3)) 3 (.int .i64 0)
  have b2 := Boxed.new ((w.alloc (.cells #[.int .i64 n] 3)).alloc (.cells #[.int .i64 0] 3)) 9 (.string s)
  rw [World.size_alloc] at b1 b2
  rw [World.size_alloc] at b2
  have hB0 : Below w.heap.size w (((w.alloc (.cells #[.int .i64 n] 3)).alloc (.cells #[.int .i64 0] 3)).alloc (.cells #[.string s] 9)) := (((Below.refl _ w).alloc (Nat.le_refl _) _).alloc (by simp) _).alloc (by simp; omega) _
  refine wpIn_rangeFunc_ownF rfl (by omega) (gf := 66) (lb := #[.pointer (some ⟨w.heap.size + 1 + 1, 0, none⟩)]) rfl trivial (enters_of Tryd.func66 (by kernel_rfl) rfl)
    (all_stops _ (by omega) (w.heap.size + 1 + 1) s hs _ b2) Kp.t (Kp.b (by simp)) (Below.refl _ _) (fun _ => rfl)
    (fun pre W => (pre.length ≤ n.toNat ∧ Boxed W w.heap.size 3 (.int .i64 (n - pre.length)) ∧ Boxed W (w.heap.size + 1) 3 (.int .i64 (ends (pl pre)))) ∧ Below w.heap.size w W)
    (fun c pre W => (c = .exit 0 ∧ ∃ (pr : List RN) (x : RN), pre = pr ++ [x] ∧ pr.length = n.toNat ∧ Boxed W (w.heap.size + 1) 3 (.int .i64 (ends (pl pr)))) ∧ Below w.heap.size w W)
    (OwnFrom.and (Own.from (fun s A B row hs hg hr => ⟨hs.1, box_own _ _ (fun pre : List RN => .int .i64 (n - pre.length)) s A B row hs.2.1 hg hr, box_own _ _ (fun pre : List RN => .int .i64 (ends (pl pre))) s A B row hs.2.2 hg hr⟩) _) (ownFrom_below (Nat.le_refl _) (by simp; omega)))
    (fun c => OwnFrom.and (Own.from (fun s A B row hs hg hr => by obtain ⟨hc, pr, x, e, hl, hb⟩ := hs; exact ⟨hc, pr, x, e, hl, box_own _ _ (fun pre : List RN => .int .i64 (ends (pl pre))) pr A B row hb hg hr⟩) _) (ownFrom_below (Nat.le_refl _) (by simp; omega)))
    ⟨⟨Nat.zero_le _, by simpa using (b0.alloc _).alloc _, b1.alloc _⟩, hB0⟩
    (fun x => { tmps := #[.string s, .int .i64 n, undef, .pointer (some ⟨w.heap.size, 0, none⟩), .string ⟨#[]⟩, .string ⟨#[]⟩, .pointer (some ⟨w.heap.size + 1, 0, none⟩), .int .i64 x.1.1, .int .i32 x.1.2, .string s, .func (.func 66) #[] #[.pointer (some ⟨w.heap.size + 1 + 1, 0, none⟩)], .int .i64 x.1.1, .int .i32 x.1.2, undef, undef, undef, undef, undef, undef, undef, undef, undef, undef, undef, undef, undef, undef, undef], defers := [] }) ?assign ?body ?done ?stop
  case assign =>
    intro l x W K hK
    rw [fold2]
    gi_wp2
    exact hK
  case body =>
    rintro l pre x W ⟨⟨hpn, hb, hbe⟩, hB⟩ hlen
    have hc := hb.cell
    have hf := hb.frozen
    have hce := hbe.cell
    have hfe := hbe.frozen
    by_cases hz : n - (pre.length : Int) ≤ 0
    · gi_wp2
      exact ⟨KeepsOthers.refl _, ⟨rfl, pre, x, rfl, by omega, hbe⟩, hB⟩
    · have hx := x.2
      have hw := widthI_rune hx.2
      have hwl := widthR_le x.1.2
      have hr0 : (0 : Int) ≤ (x.1.2 : Int) := by omega
      have hr1 : (x.1.2 : Int) ≤ 1114111 := by omega
      have HW := width_any (x.1.2 : Int) (W.setCell ⟨w.heap.size, 0, none⟩ (.int .i64 (n - pre.length - 1)))
      rw [hw] at HW
      have hsum : ((x.1.1 : Int) + (widthR x.1.2 : Int)) ≤ 1152921504606846980 := by omega
      have hwr0 : (0 : Int) ≤ (widthR x.1.2 : Int) := by omega
      have hwr1 : (widthR x.1.2 : Int) ≤ 4 := by omega
      have hxx : (x.1.1 : Int) ≤ 1152921504606846976 := by omega
      gi_wp2_with (refine ⟨trivial, ?_⟩; gi_at_call 41; refine (CallsIn.inRound l (callsIn_wide.2 HW)).mono ?_; rintro e w' ⟨rfl, rfl⟩)
      refine ⟨(KeepsOthers.setCell _ _ _).trans (KeepsOthers.setCell _ _ _), ⟨(KeepsWalks.setCell _ _ _).trans (KeepsWalks.setCell _ _ _), fun _ => (Below.heap_setCell _ _ _ _ (by simp)).trans (Below.heap_setCell _ _ _ _ (by simp; omega))⟩, ⟨?_, ?_, ?_⟩, (hB.setCell (p := ⟨w.heap.size, 0, none⟩) (Nat.le_refl _) _).setCell (p := ⟨w.heap.size + 1, 0, none⟩) (by simp) _⟩
      · rw [List.length_append, List.length_singleton]; omega
      · have := (hb.set (.int .i64 (n - pre.length - 1))).other (B' := w.heap.size + 1) (by omega) (.int .i64 (x.1.1 + widthR x.1.2))
        rw [List.length_append, List.length_singleton, show (n - ((pre.length + 1 : Nat) : Int)) = n - pre.length - 1 by omega]
        exact this
      · have := (hbe.other (B' := w.heap.size) (by omega) (.int .i64 (n - pre.length - 1))).set (.int .i64 (x.1.1 + widthR x.1.2))
        rw [pl_snoc, ends_snoc]
        exact this
  case done =>
    rintro D ys W hD hS ⟨⟨hpn, hb, hbe⟩, hB⟩ hK
    rw [pl_all hS hpn] at hbe
    have hple := pos_le n.toNat (bl s)
    rw [bl_length] at hple
    clear hpn hb hS
    obtain ⟨c, hcE⟩ : ∃ c, pos n.toNat (bl s) = c := ⟨_, rfl⟩
    rw [hcE] at hbe hple
    have HE : Hid (pos n.toNat (bl s) = c) := hcE
    clear hcE
    have hc := hbe.cell
    have hcz : (c : Int) ≤ (s.size : Int) := by omega
    have hc0 : (0 : Int) ≤ (c : Int) := by omega
    gi_wp2
    gi_quiet (fail)
    gi_wp2
    have hK' : (W.drewN nq).heap[D]? = some (.deferred (some [])) := by rw [drewN_heap]; exact hK
    refine ⟨by simp, .inl ⟨_, _, rfl, run_takeDeferred hK', ?_⟩⟩
    refine ⟨.tuple #[.string (s.extract 0 c), .string (s.extract c s.size)], by simp [results, Tryd.f64, go_sem], by rw [HE.out], (below_drewN hB _).trans (belowK_b (w := w) (Nat.le_refl _) _ D _ _ (by simp at hD; omega) hK' rfl rfl)⟩
  case stop =>
    rintro D c pre W hD hSp ⟨⟨rfl, pr, x, rfl, hl, hbe⟩, hB⟩ hK
    have hpp : pl pr <+: rs (bl s) := by
      rw [pl_snoc] at hSp
      exact (List.prefix_append _ _).trans hSp
    rw [pl_take hpp hl, ends_rl0] at hbe
    have hple := pos_le n.toNat (bl s)
    rw [bl_length] at hple
    clear hl hpp hSp
    obtain ⟨c, hcE⟩ : ∃ c, pos n.toNat (bl s) = c := ⟨_, rfl⟩
    rw [hcE] at hbe hple
    have HE : Hid (pos n.toNat (bl s) = c) := hcE
    clear hcE
    have hc := hbe.cell
    have hcz : (c : Int) ≤ (s.size : Int) := by omega
    have hc0 : (0 : Int) ≤ (c : Int) := by omega
    gi_wp2
    gi_quiet (fail)
    gi_wp2
    have hK' : (W.drewN nq).heap[D]? = some (.deferred (some [])) := by rw [drewN_heap]; exact hK
    refine ⟨by simp, .inl ⟨_, _, rfl, run_takeDeferred hK', ?_⟩⟩
    refine ⟨.tuple #[.string (s.extract 0 c), .string (s.extract c s.size)], by simp [results, Tryd.f64, go_sem], by rw [HE.out], (below_drewN hB _).trans (belowK_b (w := w) (Nat.le_refl _) _ D _ _ (by simp at hD; omega) hK' rfl rfl)⟩
end Go.Proofs.YthlbbinlkmchjaaDoor
