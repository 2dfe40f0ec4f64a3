/- Value: what it answers of every text. -/
import Derived.Test.YthlbbinlkmchjaaDoorBackM
import Derived.Maps.AppendAt
namespace Go.Proofs.YthlbbinlkmchjaaDoor
open Go.RowKit Go.Shelf
attribute [local go_sem] Oper.semAt_some

/-- what Value writes -/
def valM (l : List Nat) : Option (List Nat) := if chk l = none ∧ (rs l).length ≤ 256 then some (((rs l).map (·.2)).flatMap wrt) else none
def wr2 (xs : List (Nat × Nat)) : List Nat := xs.flatMap fun x => wrt x.2
theorem wr2_snoc (xs : List (Nat × Nat)) (x : Nat × Nat) : wr2 (xs ++ [x]) = wr2 xs ++ wrt x.2 := by simp [wr2]
theorem wr2_len : ∀ xs : List (Nat × Nat), (wr2 xs).length ≤ 6 * xs.length
  | [] => by simp [wr2]
  | x :: xs => by
    have h1 := wr2_len xs
    have h2 := (wrt_len x.2).2
    unfold wr2 at h1 ⊢
    rw [List.flatMap_cons, List.length_append, List.length_cons]
    omega
theorem Only.others {L : List Nat} {W W' : World} (h : Only L W W') (hL : ∀ b ∈ L, ∃ (cur : Array Value) (e : TypeId), W.heap[b]? = some (.cells cur e)) : KeepsOthers W W' :=
  ⟨h.size, fun k o hk ho => by
    by_cases hm : k ∈ L
    · obtain ⟨cur, e, hc⟩ := hL k hm
      rw [hc] at hk
      cases hk
      cases ho
    · exact (h.block k (Array.getElem?_eq_some_iff.1 hk).1 hm).trans hk⟩
theorem RB.cells {W : World} {B : Nat} {v : Value} {bs : List Nat} (h : RB W B v bs) : ∀ b ∈ ob v, ∃ (cur : Array Value) (e : TypeId), W.heap[b]? = some (.cells cur e) := by
  intro b hb
  obtain ⟨cur, hc⟩ := row_block h (mem_ob.1 hb)
  exact ⟨cur, 5, hc⟩
theorem field35_0 (a b : Int) (w : World) : (Instr.field 35 (.agg #[.int .i64 a, .int .i64 b]) 0).run Tryd.prog w = .ok (.int .i64 a) w := by kernel_rfl
theorem pos_four : ∀ (k i : Nat) (l : List Nat), pos k l ≤ 4 * (rl k i l).length
  | 0, _, _ => Nat.zero_le _
  | k + 1, i, l => by
    by_cases hb : bad l = none
    · rw [rl_good hb, pos_good hb, List.length_cons]
      have h1 := pos_four k (i + wd l) (l.drop (wd l))
      have h2 := wide_le (l.getD 0 0)
      unfold wd at h1 ⊢
      omega
    · rw [pos_none hb]; exact Nat.zero_le _
theorem box_keep {W W' : World} {b B : Nat} {v u : Value} {bs : List Nat} {t : TypeId} (h : Boxed W b t u) (hr : RB W B v bs) (ho : Only (ob v) W W') (ht : 5 ≠ t) : Boxed W' b t u :=
  (ho.block b h.lt (fun hm => row_not (b := b) (ys := [u]) hr h ht (mem_ob.1 hm))).trans h
/-- a right text of so few runes is short -/
theorem few_short {s : ByteArray} (h : chk (bl s) = none) (hk : (rs (bl s)).length ≤ 256) : s.size ≤ 1024 := by
  have h1 := chk_none.1 h
  rw [bl_length] at h1
  have h2 := pos_four (bl s).length 0 (bl s)
  unfold rs at hk
  unfold en at h1
  omega
set_option maxRecDepth 100000 in
set_option maxHeartbeats 8000000 in
theorem valueT_c (s : ByteArray) (w : World) (hs : s.size ≤ 1152921504606846976) (hT : Tc w) :
    Calls Tryd.prog 19 #[.string s] w fun e w' => e = .returned (textV (valM (bl s))) ∧ Only [] w w' := by
  have HT := hid hT
  have HCK := hid (fun W (h : Tc W) => check_any s W hs h.tb)
  have HCT := hid (fun W => count_any s W hs)
  clear hT
  rcases hc : chk (bl s) with _ | A
  · by_cases hn : (rs (bl s)).length ≤ 256
    · have hv : valM (bl s) = some (((rs (bl s)).map (·.2)).flatMap wrt) := by unfold valM; rw [if_pos ⟨hc, hn⟩]
      have HV := hid hv
      have hsz := few_short hc hn
      have HCC := hid hc
      obtain ⟨k, hk⟩ : ∃ k, (rs (bl s)).length = k := ⟨_, rfl⟩
      rw [hk] at HCT hn
      rw [hc] at HCK
      have hn' : ¬ (256 : Int) < (k : Int) := by omega
      have hf0 := field35_0
      clear hv hc hk hn
      refine (callsIn_wide (n := 3)).1 ?_
      refine callsIn_of_wp_marks Tryd.func19 rfl trivial ?_ rfl
      simp only [Tryd.ntmps19, List.size_toArray, List.length_cons, List.length_nil, Nat.reduceAdd, Nat.reduceSub, Array.replicate_succ, Array.replicate_zero, List.push_toArray, List.append_toArray, List.nil_append, List.cons_append]
      gi_wp2_with (refine ⟨trivial, ?_⟩; gi_at_call 43; refine (callsIn_wide.2 (HCK.out _ HT.out)).mono ?_; rintro e w1 ⟨rfl, hb1⟩; have HB1 := hid (Only.ofBelow hb1); clear hb1; simp only [told])
      refine ⟨trivial, ?_⟩
      refine (callsIn_wide.2 (HCT.out _)).mono ?_
      rintro e w2 ⟨rfl, hb2⟩
      have HB2 := hid (HB1.out.trans (Only.ofBelow hb2))
      clear hb2
      gi_wp2_with (refine ⟨trivial, ?_⟩; gi_at_call 45; refine (callsIn_wide.2 (all_any _ _)).mono ?_; rintro e w' ⟨rfl, rfl⟩)
      have b0 := Boxed.new w2 69 (.slice none 0 0)
      have b1 := Boxed.new (w2.alloc (.cells #[.slice none 0 0] 69)) 9 (.string s)
      rw [World.size_alloc] at b1
      have hB0 : Below w2.heap.size w2 ((w2.alloc (.cells #[.slice none 0 0] 69)).alloc (.cells #[.string s] 9)) := ((Below.refl _ w2).alloc (Nat.le_refl _) _).alloc (by simp) _
      refine wpIn_rangeFunc_ownG rfl (by omega) (gf := 66) (lb := #[.pointer (some ⟨w2.heap.size + 1, 0, none⟩)]) rfl trivial (enters_of Tryd.func66 (by kernel_rfl) rfl)
        (all_stops _ (by omega) (w2.heap.size + 1) s (by omega) _ b1) Kp.t (Kp.b (by simp)) (Below.refl _ _) (fun _ => rfl)
        (fun pre W => (Boxed W (w2.heap.size + 1) 9 (.string s) ∧ ∃ v, Boxed W w2.heap.size 69 v ∧ W.ownsRow w2.heap.size 5 1 v (wr2 (pl pre)).length (u8s (wr2 (pl pre))) ∧ True) ∧ Below w2.heap.size w2 W)
        (fun _ _ _ => False)
        (OwnFrom.and (OwnFrom.and (Own.from (box_own _ _ (fun _ : List RN => .string _)) _) (Own.from (holdsRow_own w2.heap.size w2.heap.size 69 5 1 (fun pre : List RN => (wr2 (pl pre)).length) (fun pre => u8s (wr2 (pl pre))) (fun _ _ => True)) _)) (ownFrom_below (Nat.le_refl _) (by simp; omega)))
        (fun _ _ _ _ _ hs _ _ => hs)
        ⟨⟨b1, .slice none 0 0, b0.alloc _, World.ownsRow_nil _ _ _ _, trivial⟩, hB0⟩
        (fun x => { tmps := #[.string s, undef, .string ⟨#[]⟩, .int .i64 0, .pointer (some ⟨w2.heap.size, 0, none⟩), undef, .int .i32 x.1.2, .string s, .agg #[.int .i64 0, .int .i64 0], .int .i64 0, .bool false, .bool false, .string s, .int .i64 k, .bool (decide ((256 : Int) < (k : Int))), .bool (decide ((256 : Int) < (k : Int))), .string s, .func (.func 66) #[] #[.pointer (some ⟨w2.heap.size + 1, 0, none⟩)], .int .i64 x.1.1, .int .i32 x.1.2, undef, undef, undef, undef, undef, undef], defers := [] }) ?assign ?body ?done ?stop
      case assign =>
        intro l x W K hK
        rw [fold2]
        gi_wp2
        exact hK
      case body =>
        rintro l pre x W ⟨⟨hb9, v, hv, hrow, _⟩, hB⟩ hlt
        have hc := hv.cell
        have hf := hv.frozen
        have hx := x.2
        have hrune : isRune x.1.2 = true := by unfold isRune; rw [decide_eq_true_eq]; omega
        have hr0 : (0 : Int) ≤ (x.1.2 : Int) := by omega
        have hr1 : (x.1.2 : Int) ≤ 1114111 := by omega
        have hlen : (wr2 (pl pre)).length ≤ 1099511627776 := by have := wr2_len (pl pre); rw [pl_length] at this; omega
        have hlb : w2.heap.size ≤ W.heap.size := hB.size
        have HLAY := lay_c (w := W) (B := w2.heap.size) (v := v) (bs := wr2 (pl pre)) hrow ((HT.out.only HB2.out (by simp)).only (Only.ofBelow hB) (by simp)) hrune hlen hlb
        obtain ⟨q, hq⟩ : ∃ q, (wr2 (pl pre) ++ wrt x.1.2).length = q := ⟨_, rfl⟩
        gi_wp2_with (refine ⟨trivial, ?_⟩; gi_at_call 42; refine (CallsIn.inRound l (callsIn_wide.2 HLAY)).mono ?_; rintro e w' ⟨v', rfl, hrb, ho⟩; obtain ⟨ad', c', hve, -, -⟩ := row_reads hrb; rw [hq] at hve; subst hve; have hv1 := box_keep hv hrow ho (by decide); have hc1 := hv1.cell; have hf1 := hv1.frozen)
        have hk := ho.others (RB.cells hrow)
        have hv2 := hv1.set (.slice ad' q c')
        have hs2 : KeepsOthers w' (w'.setCell ⟨w2.heap.size, 0, none⟩ (.slice ad' q c')) := KeepsOthers.setCell _ _ _
        have h9 : Boxed (w'.setCell ⟨w2.heap.size, 0, none⟩ (.slice ad' q c')) (w2.heap.size + 1) 9 (.string s) := (box_keep hb9 hrow ho (by decide)).other (B' := w2.heap.size) (by omega) _
        have hr2 : (w'.setCell ⟨w2.heap.size, 0, none⟩ (.slice ad' q c')).ownsRow w2.heap.size 5 1 (.slice ad' q c') (wr2 (pl pre) ++ wrt x.1.2).length (u8s (wr2 (pl pre) ++ wrt x.1.2)) := by
          refine row_only hrb ((Only.refl [w2.heap.size] _).set (.inl (by simp)) _) (fun b hb hm => ?_)
          simp at hm
          subst hm
          exact row_not (b := w2.heap.size) (ys := [v]) hrb hv1 (by decide) hb
        refine ⟨(hk.trans hs2).from _, ⟨(hk.trans hs2).walks, fun _ => h9.trans hb9.symm⟩, ⟨h9, _, hv2, ?_, trivial⟩, ?_⟩
        · rw [pl_snoc, wr2_snoc]
          exact hr2
        · refine ((hB.trans (ho.toBelow hlb (fun b hb => ?_)))).setCell (p := ⟨w2.heap.size, 0, none⟩) (Nat.le_refl _) _
          exact (row_ge hrow b (mem_ob.1 hb)).1
      case done =>
        rintro D ys W hD hS ⟨⟨hb9, v, hv, hrow, _⟩, hB⟩ hK
        have hc := hv.cell
        rw [hS] at hrow
        have hlt : ∀ b ∈ wr2 (rs (bl s)), b < 256 := by
          intro b hb
          unfold wr2 at hb
          obtain ⟨x, hx, hbx⟩ := List.mem_flatMap.1 hb
          exact wrt_lt ((rs_encs HCC.out).2 x.2 (List.mem_map_of_mem hx)) b hbx
        have hcv := RB.str (w := W) (B := w2.heap.size) hrow hlt
        have HROW := hid hrow
        clear hrow
        gi_wp2
        refine ⟨by simp, .inl ⟨_, _, rfl, run_takeDeferred hK, ?_⟩⟩
        refine ⟨.tuple #[.string (strN (wr2 (rs (bl s)))), .int .i64 0], by simp [results, Tryd.f19, go_sem], ?_, HB2.out.trans (Only.ofBelow (hB.trans (belowK_b (w := w2) (Nat.le_refl _) W D _ _ (by simp at hD; omega) hK rfl rfl)))⟩
        rw [HV.out, List.flatMap_map]
        rfl
      case stop =>
        rintro D c pre W _ _ h _
        exact h.elim
    · have hv : valM (bl s) = none := by unfold valM; rw [if_neg (fun h => hn h.2)]
      have HV := hid hv
      obtain ⟨k, hk⟩ : ∃ k, (rs (bl s)).length = k := ⟨_, rfl⟩
      rw [hk] at HCT hn
      rw [hc] at HCK
      have hn' : (256 : Int) < (k : Int) := by omega
      have hf0 := field35_0
      clear hv hc hk hn
      go_enter Tryd.func19, Tryd.ntmps19
      go_wp2_with fail
      refine (HCK.out _ HT.out).mono ?_
      rintro e w1 ⟨rfl, hb1⟩
      have HB1 := hid (Only.ofBelow hb1)
      clear hb1
      simp only [told]
      go_wp2_with fail
      refine (HCT.out _).mono ?_
      rintro e w2 ⟨rfl, hb2⟩
      have HB2 := hid (HB1.out.trans (Only.ofBelow hb2))
      clear hb2
      go_wp2_with fail
      go_ret2
      rw [HV.out]
      exact ⟨rfl, HB2.out⟩
  · have hv : valM (bl s) = none := by unfold valM; rw [if_neg (fun h => by rw [hc] at h; cases h.1)]
    have HV := hid hv
    rw [hc] at HCK
    have hf0 := field35_0
    clear hv hc
    go_enter Tryd.func19, Tryd.ntmps19
    go_wp2_with fail
    refine (HCK.out _ HT.out).mono ?_
    rintro e w1 ⟨rfl, hb1⟩
    have HB1 := hid (Only.ofBelow hb1)
    clear hb1
    simp only [told]
    go_wp2_with fail
    go_ret2
    rw [HV.out]
    exact ⟨rfl, HB1.out⟩
end Go.Proofs.YthlbbinlkmchjaaDoor
