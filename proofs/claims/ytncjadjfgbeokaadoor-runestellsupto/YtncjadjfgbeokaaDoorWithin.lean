/- within: a text's runes gone over within themselves. -/
import Derived.Test.YtncjadjfgbeokaaDoorCount
namespace Go.Proofs.YtncjadjfgbeokaaDoor
open Go.RowKit Go.Shelf
attribute [local go_sem] Oper.semAt_some

/-- how many of them begin at a or ahead of it -/
def lead (L : List (Nat × Nat)) (a : Nat) : Nat := (L.takeWhile fun x => decide (x.1 ≤ a)).length
def leads (L : List (Nat × Nat)) (M : List (Nat × Nat)) : Nat := (M.map fun x => lead L x.1).sum
theorem leads_snoc (L M : List (Nat × Nat)) (x : Nat × Nat) : leads L (M ++ [x]) = leads L M + lead L x.1 := by simp [leads]
theorem lead_all {L : List (Nat × Nat)} {a : Nat} (h : ∀ x ∈ L, x.1 ≤ a) : lead L a = L.length := by
  unfold lead
  congr 1
  induction L with
  | nil => rfl
  | cons x L ih =>
    rw [List.takeWhile_cons_of_pos (by simpa using h x (by simp)), ih (fun y hy => h y (by simp [hy]))]
theorem lead_stop {L M : List (Nat × Nat)} {x : Nat × Nat} {a : Nat} (hp : M ++ [x] <+: L) (h : ∀ y ∈ M, y.1 ≤ a) (hx : a < x.1) : lead L a = M.length := by
  obtain ⟨T, rfl⟩ := hp
  unfold lead
  rw [List.append_assoc, List.takeWhile_append_of_pos (fun y hy => by simpa using h y hy), List.singleton_append, List.takeWhile_cons_of_neg (by simp; omega), List.append_nil]
/-- the places rise -/
theorem rl_rise : ∀ (k i : Nat) (l : List Nat), (rl k i l).Pairwise (fun x y => x.1 < y.1) ∧ ∀ x ∈ rl k i l, i ≤ x.1
  | 0, _, _ => by simp [rl]
  | k + 1, i, l => by
    unfold rl
    split
    · rename_i hb
      have h1 := (bad_none hb)
      obtain ⟨h2, h3⟩ := rl_rise k (i + wd l) (l.drop (wd l))
      refine ⟨List.pairwise_cons.2 ⟨fun y hy => ?_, h2⟩, fun x hx => ?_⟩
      · have := h3 y hy
        simp only
        omega
      · rcases List.mem_cons.1 hx with rfl | hx
        · exact Nat.le_refl _
        · have := h3 x hx; omega
    · simp
theorem leads_own : ∀ (L : List (Nat × Nat)), L.Pairwise (fun x y => x.1 < y.1) → 2 * leads L L = L.length * (L.length + 1)
  | [], _ => rfl
  | x :: L, h => by
    obtain ⟨h1, h2⟩ := List.pairwise_cons.1 h
    have ih := leads_own L h2
    have e1 : lead (x :: L) x.1 = 1 := by
      cases L with
      | nil => simp [lead]
      | cons y L =>
        have := h1 y (by simp)
        simp [lead, this]
    have e2 : ∀ M : List (Nat × Nat), (∀ y ∈ M, x.1 < y.1) → leads (x :: L) M = M.length + leads L M := by
      intro M
      induction M with
      | nil => intro _; rfl
      | cons y M ihM =>
        intro hM
        have hy := hM y (by simp)
        have := ihM (fun z hz => hM z (by simp [hz]))
        have e : lead (x :: L) y.1 = 1 + lead L y.1 := by
          unfold lead
          rw [List.takeWhile_cons_of_pos (by simp; omega), List.length_cons, Nat.add_comm]
        simp only [leads, List.map_cons, List.sum_cons, List.length_cons, e] at this ⊢
        omega
    have e3 : leads (x :: L) (x :: L) = lead (x :: L) x.1 + leads (x :: L) L := by simp [leads]
    rw [e3, e1, e2 L h1, List.length_cons]
    have : L.length * (L.length + 1) + 2 * (L.length + 1) = (L.length + 1) * (L.length + 1 + 1) := by
      rw [← Nat.add_mul, Nat.mul_comm]
    omega
theorem leads_text (l : List Nat) : 2 * leads (rs l) (rs l) = (rs l).length * ((rs l).length + 1) := leads_own _ (rl_rise _ _ _).1
theorem wrap_step (a k : Nat) : wrap64 (wrap64 ((a : Int) + (k : Int)) + 1) = wrap64 ((a : Int) + ((k + 1 : Nat) : Int)) := by unfold wrap64; omega
theorem keeps_others {W W' : World} (h : KeepsFrom 0 W W') : KeepsOthers W W' := ⟨h.size, fun k o => h.same k o (Nat.zero_le _)⟩

/-- a function's value is laid as any other is -/
theorem store_func (P : Program) (w : World) (a : Addr) (m : Mode) (f : Fn) (ts vs : Array Value) : (store a (.func f ts vs) m).run P w = stored P w a (.func f ts vs) m := run_store P w a _ m rfl
attribute [local go_sem] store_func

set_option maxRecDepth 100000 in
set_option maxHeartbeats 4000000 in
theorem within_any (s : ByteArray) (w : World) (hs : s.size ≤ 1152921504606846976) :
    Calls Tryd.prog 13 #[.string s] w fun e w' => e = .returned (.int .i64 (wrap64 (leads (rs (bl s)) (rs (bl s)) : Nat))) ∧ Below w.heap.size w w' := by
  refine (callsIn_wide (n := 7)).1 ?_
  refine callsIn_of_wp_marks Tryd.func13 rfl trivial ?_ rfl
  simp only [Tryd.ntmps13, List.size_toArray, List.length_cons, List.length_nil, Nat.reduceAdd, Nat.reduceSub, Array.replicate_succ, Array.replicate_zero, List.push_toArray, List.append_toArray, List.nil_append, List.cons_append]
  gi_wp2_with (refine ⟨trivial, ?_⟩; gi_at_call 23; refine (callsIn_wide.2 (all_any _ _)).mono ?_; rintro e w' ⟨rfl, rfl⟩)
  have b0 := ((Boxed.new w 3 (.int .i64 0)).alloc (.cells #[.string s] 9)).alloc (.cells #[.func (.func 27) #[] #[.pointer (some ⟨w.heap.size + 1, 0, none⟩)]] 45)
  have bs := (Boxed.new (w.alloc (.cells #[.int .i64 0] 3)) 9 (.string s)).alloc (.cells #[.func (.func 27) #[] #[.pointer (some ⟨w.heap.size + 1, 0, none⟩)]] 45)
  have bf := Boxed.new ((w.alloc (.cells #[.int .i64 0] 3)).alloc (.cells #[.string s] 9)) 45 (.func (.func 27) #[] #[.pointer (some ⟨w.heap.size + 1, 0, none⟩)])
  simp only [World.size_alloc] at bs bf
  have hB0 : Below w.heap.size w (((w.alloc (.cells #[.int .i64 0] 3)).alloc (.cells #[.string s] 9)).alloc (.cells #[.func (.func 27) #[] #[.pointer (some ⟨w.heap.size + 1, 0, none⟩)]] 45)) := (((Below.refl _ w).alloc (Nat.le_refl _) _).alloc (by simp) _).alloc (by simp; omega) _
  have hsz : (((w.alloc (.cells #[.int .i64 0] 3)).alloc (.cells #[.string s] 9)).alloc (.cells #[.func (.func 27) #[] #[.pointer (some ⟨w.heap.size + 1, 0, none⟩)]] 45)).heap.size = w.heap.size + 3 := by simp
  obtain ⟨W0, hW0⟩ : ∃ W0, ((w.alloc (.cells #[.int .i64 0] 3)).alloc (.cells #[.string s] 9)).alloc (.cells #[.func (.func 27) #[] #[.pointer (some ⟨w.heap.size + 1, 0, none⟩)]] 45) = W0 := ⟨_, rfl⟩
  rw [hW0] at b0 bs bf hB0 hsz ⊢
  clear hW0
  refine wpIn_rangeFunc_ownH rfl (by omega) (gf := 27) (lb := #[.pointer (some ⟨w.heap.size + 1, 0, none⟩)]) rfl trivial (enters_of Tryd.func27 (by kernel_rfl) rfl)
    (all_stops _ (by omega) (w.heap.size + 1) s hs W0 bs) Kp.t (Kp.b (by omega)) (Below.refl _ _) (fun _ => rfl)
    (fun pre W => ((Boxed W w.heap.size 3 (.int .i64 (wrap64 ((leads (rs (bl s)) (pl pre) : Nat) : Int))) ∧ Boxed W (w.heap.size + 1) 9 (.string s)) ∧ Boxed W (w.heap.size + 1 + 1) 45 (.func (.func 27) #[] #[.pointer (some ⟨w.heap.size + 1, 0, none⟩)])) ∧ Below w.heap.size w W)
    (fun _ _ _ => False)
    (OwnFrom.and (OwnFrom.and (OwnFrom.and (Own.from (boxed_own _ _ _) _) (Own.from (boxed_own _ _ _) _)) (Own.from (boxed_own _ _ _) _)) (ownFrom_below (Nat.le_refl _) (by omega)))
    (fun _ _ _ _ _ hs _ _ => hs)
    ⟨⟨⟨by have e : wrap64 ((leads (rs (bl s)) (pl []) : Nat) : Int) = 0 := (by show wrap64 0 = 0; unfold wrap64; omega)
          rw [e]; exact b0, bs⟩, bf⟩, hB0⟩
    (fun x a' W => ∃ Bx, w.heap.size + 1 + 1 < Bx ∧ Boxed W Bx 3 (.int .i64 x.1.1) ∧ a' = { tmps := #[.string s, undef, .int .i64 0, .pointer (some ⟨w.heap.size, 0, none⟩), .pointer (some ⟨w.heap.size + 1 + 1, 0, none⟩), .pointer (some ⟨Bx, 0, none⟩), undef, .string s, .func (.func 27) #[] #[.pointer (some ⟨w.heap.size + 1, 0, none⟩)], .func (.func 27) #[] #[.pointer (some ⟨w.heap.size + 1, 0, none⟩)], .int .i64 x.1.1, .int .i32 x.1.2, undef, undef, undef, undef, undef, undef, undef, undef, undef], defers := [] })
    (fun x a' _ X Y row hs hg hr => by obtain ⟨Bx, h1, h2, h3⟩ := hs; exact ⟨Bx, h1, boxed_own Bx 3 (fun (_ : Unit) => Value.int .i64 x.1.1) () X Y row h2 hg (fun r e => (hr r e).2), h3⟩)
    ?assign ?body ?done ?stop
  case assign =>
    rintro l pre x W K ⟨⟨⟨b0, bs⟩, bf⟩, hB⟩ hK
    rw [fold2]
    gi_wp2
    exact hK _ _ ((KeepsOthers.alloc _ _).from _) ⟨KeepsWalks.alloc _ _, fun _ => (bs.alloc _).trans bs.symm⟩ ⟨⟨⟨b0.alloc _, bs.alloc _⟩, bf.alloc _⟩, hB.alloc hB.size _⟩ ⟨W.heap.size, bf.lt, Boxed.new W 3 _, rfl⟩
  case body =>
    rintro l pre x a' W hl ⟨r, hr⟩ ⟨⟨⟨b0, bs⟩, bf⟩, hB⟩ ⟨Bx, hBx, bX, rfl⟩ hlt
    have cf := bf.cell
    have hsW := hB.size
    gi_wp2
    refine wpIn_rangeFunc_ownN (l₀ := l) (r₀ := r) rfl hr (by omega) (gf := 27) (lb := #[.pointer (some ⟨w.heap.size + 1, 0, none⟩)]) rfl trivial (enters_of Tryd.func27 (by kernel_rfl) rfl)
      ((all_stops _ (by omega) (w.heap.size + 1) s hs W bs).inRound l) Kp.t (Kp.b bs.lt) (Below.refl _ _) (fun _ => rfl)
      (fun pre' W' => (((Boxed W' w.heap.size 3 (.int .i64 (wrap64 ((leads (rs (bl s)) (pl pre) + pre'.length : Nat) : Int))) ∧ Boxed W' Bx 3 (.int .i64 x.1.1)) ∧ Boxed W' (w.heap.size + 1) 9 (.string s)) ∧ Boxed W' (w.heap.size + 1 + 1) 45 (.func (.func 27) #[] #[.pointer (some ⟨w.heap.size + 1, 0, none⟩)])) ∧ ((∀ z ∈ pl pre', z.1 ≤ x.1.1) ∧ (Below w.heap.size W W' ∧ KeepsFrom 0 W W')))
      (fun c pre' W' => ((Boxed W' w.heap.size 3 (.int .i64 (wrap64 ((leads (rs (bl s)) (pl pre) + (pre'.length - 1) : Nat) : Int))) ∧ Boxed W' (w.heap.size + 1) 9 (.string s)) ∧ Boxed W' (w.heap.size + 1 + 1) 45 (.func (.func 27) #[] #[.pointer (some ⟨w.heap.size + 1, 0, none⟩)])) ∧ ((c = .exit 2 ∧ ∃ (pr : List RN) (y : RN), pre' = pr ++ [y] ∧ (∀ z ∈ pl pr, z.1 ≤ x.1.1) ∧ x.1.1 < y.1.1) ∧ (Below w.heap.size W W' ∧ KeepsFrom 0 W W')))
      (OwnFrom.and (OwnFrom.and (OwnFrom.and (OwnFrom.and (Own.from (boxed_own _ _ _) _) (Own.from (boxed_own _ _ _) _)) (Own.from (boxed_own _ _ _) _)) (Own.from (boxed_own _ _ _) _)) (OwnFrom.and (ownFrom_pure _ _) (OwnFrom.and (ownFrom_below hsW hsW) (ownFrom_keepsFrom (Nat.le_refl _)))))
      (fun c => OwnFrom.and (OwnFrom.and (OwnFrom.and (Own.from (boxed_own _ _ _) _) (Own.from (boxed_own _ _ _) _)) (Own.from (boxed_own _ _ _) _)) (OwnFrom.and (ownFrom_pure _ _) (OwnFrom.and (ownFrom_below hsW hsW) (ownFrom_keepsFrom (Nat.le_refl _)))))
      ⟨⟨⟨⟨b0, bX⟩, bs⟩, bf⟩, by simp [pl], Below.refl _ _, KeepsFrom.refl _ _⟩
      (fun y a'' _ => a'' = { tmps := #[.string s, undef, .int .i64 0, .pointer (some ⟨w.heap.size, 0, none⟩), .pointer (some ⟨w.heap.size + 1 + 1, 0, none⟩), .pointer (some ⟨Bx, 0, none⟩), .int .i64 y.1.1, .string s, .func (.func 27) #[] #[.pointer (some ⟨w.heap.size + 1, 0, none⟩)], .func (.func 27) #[] #[.pointer (some ⟨w.heap.size + 1, 0, none⟩)], .int .i64 x.1.1, .int .i32 x.1.2, .func (.func 27) #[] #[.pointer (some ⟨w.heap.size + 1, 0, none⟩)], .int .i64 y.1.1, .int .i32 y.1.2, undef, undef, undef, undef, undef, undef], defers := [] })
      (fun _ _ _ _ _ _ hs _ _ => hs)
      ?assign2 ?body2 ?done2 ?stop2
    case assign2 =>
      rintro l2 pre' y W' K hi hK
      rw [fold2]
      gi_wp2
      exact hK _ _ (KeepsFrom.refl _ _) ⟨KeepsWalks.refl _, fun _ => rfl⟩ hi rfl
    case body2 =>
      rintro l2 pre' y a'' W' _ _ ⟨⟨⟨⟨c0, cX⟩, cs⟩, cf'⟩, hle, hBW, hKF⟩ rfl _
      have e0 := c0.cell
      have f0 := c0.frozen
      have eX := cX.cell
      by_cases hgt : (x.1.1 : Int) < (y.1.1 : Int)
      · gi_wp2
        exact ⟨KeepsFrom.refl _ _, ⟨⟨by rw [List.length_append, List.length_singleton, Nat.add_sub_cancel]; exact c0, cs⟩, cf'⟩, ⟨rfl, pre', y, rfl, hle, by omega⟩, hBW, hKF⟩
      · gi_wp2
        refine ⟨(KeepsOthers.setCell _ _ _).from _, ⟨KeepsWalks.setCell _ _ _, fun _ => Below.heap_setCell _ _ _ _ (by simp)⟩, ⟨⟨⟨?_, cX.other (by omega) _⟩, cs.other (by omega) _⟩, cf'.other (by omega) _⟩, ?_, hBW.setCell (p := ⟨w.heap.size, 0, none⟩) (Nat.le_refl _) _, hKF.trans ((KeepsOthers.setCell _ _ _).from _)⟩
        · rw [List.length_append, List.length_singleton, ← wrap_step]
          exact c0.set _
        · have hle2 : ∀ z ∈ pl (pre' ++ [y]), z.1 ≤ x.1.1 := by
            intro z hz
            rw [pl_snoc] at hz
            rcases List.mem_append.1 hz with h | h
            · exact hle z h
            · rw [List.mem_singleton.1 h]; omega
          exact fun a b h => hle2 (a, b) h
    case done2 =>
      rintro ys W' hS ⟨⟨⟨⟨c0, cX⟩, cs⟩, cf'⟩, hle, hBW, hKF⟩
      have e : leads (rs (bl s)) (pl (pre ++ [x])) = leads (rs (bl s)) (pl pre) + ys.length := by
        rw [pl_snoc, leads_snoc, lead_all (by rw [← hS]; exact hle), ← hS, pl_length]
      gi_wp2
      exact ⟨(keeps_others hKF).from _, ⟨(keeps_others hKF).walks, fun _ => cs.trans bs.symm⟩, ⟨⟨by rw [e]; exact c0, cs⟩, cf'⟩, hB.trans hBW⟩
    case stop2 =>
      rintro c pre' W' hSp ⟨⟨⟨c0, cs⟩, cf'⟩, ⟨rfl, pr, y, rfl, hle, hgt⟩, hBW, hKF⟩
      have e : leads (rs (bl s)) (pl (pre ++ [x])) = leads (rs (bl s)) (pl pre) + ((pr ++ [y]).length - 1) := by
        rw [pl_snoc] at hSp
        rw [pl_snoc, leads_snoc, lead_stop hSp hle hgt, pl_length, List.length_append, List.length_singleton, Nat.add_sub_cancel]
      gi_wp2
      exact ⟨(keeps_others hKF).from _, ⟨(keeps_others hKF).walks, fun _ => cs.trans bs.symm⟩, ⟨⟨by rw [e]; exact c0, cs⟩, cf'⟩, hB.trans hBW⟩
  case done =>
    rintro D ys W hD hS ⟨⟨⟨b0, bs⟩, bf⟩, hB⟩ hK
    rw [hS] at b0
    have c0 := b0.cell
    gi_wp2
    refine ⟨by simp, .inl ⟨_, _, rfl, run_takeDeferred hK, ?_⟩⟩
    exact ⟨_, results_tmp rfl _ _ _, rfl, hB.trans (belowK_b (w := w) (Nat.le_refl _) W D _ _ (by omega) hK rfl rfl)⟩
  case stop =>
    rintro D c pre W _ _ h _
    exact h.elim
end Go.Proofs.YtncjadjfgbeokaaDoor
