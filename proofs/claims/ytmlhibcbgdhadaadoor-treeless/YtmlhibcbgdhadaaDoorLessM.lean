/- A document without its last node; each node a kid of one: as mathematics. -/
import Derived.Test.YtmlhibcbgdhadaaDoorWays
namespace Go.Proofs.YtmlhibcbgdhadaaDoor

theorem nd_take {ns : List Nd} {m i : Nat} (h : i < m) : nd (ns.take m) i = nd ns i := by
  unfold nd
  rw [List.getD_eq_getElem?_getD, List.getD_eq_getElem?_getD, List.getElem?_take, if_pos h]
theorem nk_take {ns : List Nd} {m i : Nat} (h : i < m) : nk (ns.take m) i = nk ns i := by unfold nk; rw [nd_take h]
theorem np_take {ns : List Nd} {m i : Nat} (h : i < m) : np (ns.take m) i = np ns i := by unfold np; rw [nd_take h]
theorem wy_take {ns : List Nd} {m : Nat} (h : PN ns m) : ∀ f n, n < m → wy (ns.take m) f n = wy ns f n
  | 0, _, _ => rfl
  | f + 1, n, hn => by
    unfold wy
    rw [np_take hn]
    split
    · rename_i h0
      have : (np ns n).toNat < m := by
        rcases Nat.eq_zero_or_pos n with q | q
        · subst q; have := (h 0 hn).1 rfl; omega
        · have := (h n hn).2 q; omega
      rw [wy_take h f _ this]
    · rfl
theorem way_take {ns : List Nd} {m n : Nat} (h : PN ns m) (hn : n < m) : way (ns.take m) n = way ns n := wy_take h _ _ hn
theorem plc_take {ns : List Nd} {m n : Nat} (h : PN ns m) (hn : n < m) : plc (ns.take m) n = plc ns n := by
  unfold plc
  rcases Nat.eq_zero_or_pos n with q | q
  · subst q; rw [if_pos rfl, if_pos rfl, nk_take hn, np_take hn]
  · have h0 := (h n hn).2 q
    have hp : (np ns n).toNat < m := by omega
    rw [if_neg (by omega), if_neg (by omega), np_take hn, nk_take hn, nk_take hp, way_take h hp, way_take h (by omega)]
theorem say_take {ns : List Nd} {m n : Nat} (hn : n < m) : say (ns.take m) n = say ns n := by
  unfold say
  rw [nk_take hn, np_take hn, nd_take hn, nk_take (show n - 1 < m by omega), np_take (show n - 1 < m by omega)]
theorem ok_take {ns : List Nd} {m n : Nat} (h : PN ns m) (hn : n < m) : ok (ns.take m) n = ok ns n := by
  unfold ok
  rw [plc_take h hn, say_take hn, nd_take hn]
/-- P9.6 -/
theorem chk_less {ns : List Nd} (h : Doc ns) (h2 : 2 ≤ ns.length) : chkN (ns.take (ns.length - 1)) = (0, 0) := by
  have hl : (ns.take (ns.length - 1)).length = ns.length - 1 := by simp
  have hg := h.2.2
  refine chk_right (by rw [hl]; have := h.1; omega) (by rw [hl]; omega) fun i hi => ?_
  rw [hl] at hi
  rw [ok_take (hg.mono (by omega)).pn hi]
  exact hg i (by omega)
theorem way_head {ns : List Nd} {m : Nat} (h : PN ns m) : ∀ n, n < m → (way ns n)[0]? = some 0 := by
  intro n
  induction n using Nat.strongRecOn with
  | ind n ih =>
    intro hn
    rcases Nat.eq_zero_or_pos n with q | q
    · subst q; rw [way_zero h hn]; rfl
    · have h0 := (h n hn).2 q
      rw [way_pos h hn q]
      have := ih (np ns n).toNat (by omega) (by omega)
      rw [List.getElem?_append_left (List.getElem?_eq_some_iff.1 this).1, this]
theorem way_link {ns : List Nd} {m : Nat} (h : PN ns m) : ∀ n, n < m → ∀ i, i + 1 < (way ns n).length → ∃ p k : Nat, (way ns n)[i]? = some p ∧ (way ns n)[i + 1]? = some k ∧ k < m ∧ np ns k = (p : Int) := by
  intro n
  induction n using Nat.strongRecOn with
  | ind n ih =>
    intro hn i hi
    rcases Nat.eq_zero_or_pos n with q | q
    · subst q; rw [way_zero h hn] at hi; simp at hi
    · have h0 := (h n hn).2 q
      obtain ⟨p, hp⟩ : ∃ p : Nat, np ns n = (p : Int) := ⟨(np ns n).toNat, by omega⟩
      have hw := way_pos h hn q
      rw [hp, Int.toNat_natCast] at hw
      rw [hw] at hi ⊢
      rw [List.length_append, List.length_singleton] at hi
      by_cases g : i + 1 < (way ns p).length
      · obtain ⟨p', k, e1, e2, e3, e4⟩ := ih p (by omega) (by omega) i g
        exact ⟨p', k, by rw [List.getElem?_append_left (by omega), e1], by rw [List.getElem?_append_left g, e2], e3, e4⟩
      · have g2 : i + 1 = (way ns p).length := by omega
        refine ⟨p, n, ?_, ?_, hn, hp⟩
        · rw [List.getElem?_append_left (by omega), ← way_last (ns := ns) p, List.getLast?_eq_getElem?]
          congr 1; omega
        · rw [List.getElem?_append_right (by omega), g2, Nat.sub_self]; rfl
theorem kidsL_mem {ns : List Nd} {n k : Nat} (h : PN ns ns.length) (hk : k ∈ kidsL ns n) : n < k ∧ k < ns.length ∧ np ns k = (n : Int) := by
  unfold kidsL at hk
  rw [List.mem_filter, List.mem_range] at hk
  have h1 : np ns k = (n : Int) := by simpa using hk.2
  refine ⟨?_, hk.1, h1⟩
  rcases Nat.eq_zero_or_pos k with q | q
  · subst q; have := (h 0 hk.1).1 rfl; omega
  · have := (h k hk.1).2 q; omega
theorem kidsL_rise (ns : List Nd) (n : Int) : (kidsL ns n).Pairwise (· < ·) := by
  unfold kidsL
  exact List.Pairwise.filter _ List.pairwise_lt_range
def cntK (ns : List Nd) (n : Nat) : Nat := (List.range ns.length).countP fun k => decide (0 ≤ np ns k ∧ np ns k < (n : Int))
theorem cnt_zero (ns : List Nd) : cntK ns 0 = 0 := by
  unfold cntK
  rw [List.countP_eq_zero]
  intro k _
  simp only [decide_eq_true_eq]; omega
theorem cnt_succ (ns : List Nd) (n : Nat) : cntK ns (n + 1) = cntK ns n + (kidsL ns n).length := by
  unfold cntK kidsL
  rw [← List.countP_eq_length_filter]
  induction List.range ns.length with
  | nil => rfl
  | cons k r ih =>
    rw [List.countP_cons, List.countP_cons, List.countP_cons, ih]
    by_cases h1 : np ns k = (n : Int)
    · have a1 : decide (0 ≤ np ns k ∧ np ns k < ((n + 1 : Nat) : Int)) = true := by rw [decide_eq_true_eq]; omega
      have a2 : decide (0 ≤ np ns k ∧ np ns k < (n : Int)) = false := by rw [decide_eq_false_iff_not]; omega
      have a3 : (np ns k == (n : Int)) = true := by simpa using h1
      rw [a1, a2, a3]; simp; omega
    · have a3 : (np ns k == (n : Int)) = false := by simpa using h1
      have a1 : decide (0 ≤ np ns k ∧ np ns k < ((n + 1 : Nat) : Int)) = decide (0 ≤ np ns k ∧ np ns k < (n : Int)) := decide_eq_decide.2 (by omega)
      rw [a1, a3]; simp; omega
theorem countP_pos_range : ∀ n : Nat, (List.range n).countP (fun k => decide (0 < k)) = n - 1
  | 0 => rfl
  | n + 1 => by
    rw [List.range_succ, List.countP_append, countP_pos_range n]
    rcases Nat.eq_zero_or_pos n with q | q
    · subst q; rfl
    · rw [List.countP_cons, List.countP_nil, if_pos (by simpa using q)]; omega
theorem cnt_all {ns : List Nd} (h : PN ns ns.length) : cntK ns ns.length = ns.length - 1 := by
  unfold cntK
  rw [← countP_pos_range]
  refine List.countP_congr fun k hk => ?_
  have hk' := List.mem_range.1 hk
  simp only [decide_eq_true_eq]
  rcases Nat.eq_zero_or_pos k with q | q
  · subst q; have := (h 0 hk').1 rfl; omega
  · have := (h k hk').2 q; omega
theorem way_lenL (ns : List Nd) (n : Nat) : 0 < (way ns n).length ∧ (way ns n)[(way ns n).length - 1]? = some n := by
  refine ⟨List.length_pos_iff.2 (way_ne n), ?_⟩
  rw [← List.getLast?_eq_getElem?, way_last]
end Go.Proofs.YtmlhibcbgdhadaaDoor
