/- slices.SortFunc over pairs, by order: a row that holds a rising list's pairs in whatever order holds the list behind it. -/
import Derived.Test.YtnplplhhldpgmaaShelf
import Derived.Test.YtnplplhhldpgmaaNew
namespace Go.Proofs.Ytnplplhhldpgmaa
open Go.RowKit Go.Shelf

theorem lt_of (p q : Pr) : Go.Proofs.ltOf ordI p q = true ↔ ltP p q := by
  unfold Go.Proofs.ltOf
  rw [decide_eq_true_eq]
  exact ord_lt p q
theorem swo : Go.Sort.SWO (Go.Proofs.ltOf ordI) where
  irrefl x := by
    cases h : Go.Proofs.ltOf ordI x x with
    | false => rfl
    | true => have := (lt_of x x).1 h; unfold ltP at this; omega
  trans x y z h1 h2 := (lt_of x z).2 (ltP_trans ((lt_of x y).1 h1) ((lt_of y z).1 h2))
  ntrans x y z h1 h2 := by
    have a : ¬ ltP x y := fun h => by rw [(lt_of x y).2 h] at h1; cases h1
    have b : ¬ ltP y z := fun h => by rw [(lt_of y z).2 h] at h2; cases h2
    cases h : Go.Proofs.ltOf ordI x z with
    | false => rfl
    | true => have := (lt_of x z).1 h; unfold ltP at *; omega
/-- what is sorted and holds a rising list's pairs is the list -/
theorem sorted_is : ∀ {qs ps : List Pr}, qs.Perm ps → RiseP ps → (qs.Pairwise fun x y => ¬ ltP y x) → qs = ps
  | qs, [], h, _, _ => List.perm_nil.1 h
  | [], p :: ps, h, _, _ => by have := h.length_eq; simp at this
  | q :: qs, p :: ps, h, hr, hs => by
    obtain ⟨r1, r2⟩ := List.pairwise_cons.1 hr
    obtain ⟨s1, s2⟩ := List.pairwise_cons.1 hs
    have hp : p ∈ q :: qs := h.mem_iff.2 (by simp)
    have hq : q ∈ p :: ps := h.mem_iff.1 (by simp)
    have e : q = p := by
      rcases List.mem_cons.1 hq with e | e
      · exact e
      · rcases List.mem_cons.1 hp with e2 | e2
        · exact e2.symm
        · exact absurd (r1 q e) (s1 p e2)
    subst e
    rw [sorted_is (List.Perm.cons_inv h) r2 s2]
theorem sort_row {w : World} {g m : Nat} {d' : Array Pr} {os : Array Obj} {cur : Array Value} (hh : w.heap[g]? = some (.cells cur 52 (0, 0))) (hn : d'.size * 5 ≤ cur.size) :
    ∃ cur', (Go.Proofs.sortWorldK cp 5 w g 0 m d' os).heap[g]? = some (.cells cur' 52 (0, 0)) ∧ cur'.size = cur.size ∧ cur'.toList.take (d'.size * 5) = d'.toList.flatMap cp ∧ Only [g] w (Go.Proofs.sortWorldK cp 5 w g 0 m d' os) := by
  have hg : g < w.heap.size := by
    rcases Nat.lt_or_ge g w.heap.size with q | q
    · exact q
    · rw [Array.getElem?_eq_none q] at hh; cases hh
  have hfs : (Go.Sort.flatK cp 5 d').size = d'.size * 5 := Go.Sort.size_flatK _ _ _
  refine ⟨Go.Sort.putCells id 0 (Go.Sort.flatK cp 5 d') cur, ?_, ?_, ?_, ?_⟩
  · unfold Go.Proofs.sortWorldK Go.Sort.putRowK Go.Sort.putRow
    rw [Go.Sort.heap_grow_old _ _ (by simp [Go.Sort.mapBlock, Go.Sort.ahead]; exact hg)]
    simp [Go.Sort.mapBlock, Go.Sort.ahead, Array.getElem?_modify, hh, Go.Sort.onCells]
  · simp [Go.Sort.putCells]
  · apply List.ext_getElem?
    intro j
    rw [List.getElem?_take]
    rcases Nat.lt_or_ge j (d'.size * 5) with q | q
    · rw [if_pos q]
      have hj : j < cur.size := by omega
      have hi : j / 5 < d'.toList.length := by simp; omega
      obtain ⟨x, hx⟩ := some_at hi
      have f := flat_get (enc := cp) cp_len (c := j % 5) (by omega) hx
      rw [show j / 5 * 5 + j % 5 = j by omega] at f
      rw [f]
      have e : d'[j / 5]! = x := by
        have : d'[j / 5]? = some x := by simpa using hx
        rw [Array.getElem!_eq_getD, Array.getD_eq_getD_getElem?, this]; rfl
      simp only [Go.Sort.putCells, Array.getElem?_toList, Array.getElem?_mapIdx, Array.getElem?_eq_getElem hj, Option.map_some]
      rw [if_pos (by rw [hfs]; omega), Nat.sub_zero, Go.Sort.get_flatK _ _ _ _ q, e]
      have hc : j % 5 < (cp x).length := by rw [cp_len]; omega
      rw [List.getElem?_eq_getElem hc, getElem!_pos (cp x) (j % 5) hc]
      rfl
    · rw [if_neg (by omega), List.getElem?_eq_none (by rw [flat_len cp_len]; simpa using q)]
  · unfold Go.Proofs.sortWorldK Go.Sort.putRowK Go.Sort.putRow
    refine ⟨rfl, rfl, rfl, by simp [Go.Sort.grow, Go.Sort.mapBlock, Go.Sort.ahead], ?_⟩
    intro k hk hn2
    rw [Go.Sort.heap_grow_old _ _ (by simp [Go.Sort.mapBlock, Go.Sort.ahead]; exact hk)]
    have hne : ¬ g = k := fun e => hn2 (by simp [e])
    simp [Go.Sort.mapBlock, Go.Sort.ahead, Array.getElem?_modify, hne]
theorem cmp_lays (blk off size : Nat) (w : World) : Go.Proofs.CmpLays Try.prog 34 #[] cp 5 ordI blk off size w := by
  intro m os dk _ x y
  exact (order_any x y _).mono fun _ _ h => ⟨h.1, h.2⟩
set_option maxRecDepth 100000 in
set_option maxHeartbeats 2000000 in
theorem sort_any {w : World} {base : Nat} {v : Value} {qs ps : List Pr} (hown : w.ownsRow base 52 5 v qs.length (qs.flatMap cp)) (hperm : qs.Perm ps) (hr : RiseP ps) (hn : ps.length ≤ 4096) :
    Calls Try.prog 33 #[v, .func (.func 34) #[] #[]] w fun e w' => e = .returned (.tuple #[]) ∧ w'.ownsRow base 52 5 v ps.length (ps.flatMap cp) ∧ w.grownBy w' v.ownBlock := by
  have hl := hperm.length_eq
  rcases hown.2 with ⟨rfl, h0⟩ | ⟨g, cap, cur, rfl, hb, hh, hc, hm, hs, hx⟩
  · have hps : ps = [] := List.eq_nil_of_length_eq_zero (by omega)
    subst hps
    have hcon := Go.Proofs.AnyF.slices_SortFunc_none Try.sortP none 0 (.func (.func 34) #[] #[]) w
    change Calls Try.prog 33 _ _ _ at hcon
    refine hcon.mono ?_
    rintro e w' ⟨rfl, rfl⟩
    exact ⟨rfl, ⟨rfl, .inl ⟨rfl, rfl⟩⟩, ⟨rfl, rfl, rfl, Nat.le_refl _, fun _ _ _ => rfl⟩⟩
  · have hg : g < w.heap.size := by
      rcases Nat.lt_or_ge g w.heap.size with q | q
      · exact q
      · rw [Array.getElem?_eq_none q] at hh; cases hh
    have hH : Go.Sort.HoldsK cp 5 w g 0 qs.toArray := by
      intro j hj
      rw [Go.Sort.size_flatK] at hj
      have hj5 : j < qs.length * 5 := by simpa using hj
      have hi : j / 5 < qs.length := by omega
      obtain ⟨x, hxi⟩ := some_at hi
      have f := flat_get (enc := cp) cp_len (c := j % 5) (by omega) hxi
      rw [show j / 5 * 5 + j % 5 = j by omega, ← hx, List.getElem?_take, if_pos hj5] at f
      have e : (qs.toArray)[j / 5]! = x := by
        have : (qs.toArray)[j / 5]? = some x := by simpa using hxi
        rw [Array.getElem!_eq_getD, Array.getD_eq_getD_getElem?, this]; rfl
      have hc5 : j % 5 < (cp x).length := by rw [cp_len]; omega
      refine ⟨?_, by simp [World.frozen?, hh]⟩
      rw [Go.Sort.get_flatK _ _ _ _ hj, e]
      simp only [World.cell?, hh, Nat.zero_add]
      have f2 : cur[j]? = (cp x)[j % 5]? := by simpa using f
      simp only [Option.isSome_none, Bool.false_eq_true, if_false, f2, List.getElem?_eq_getElem hc5, id_eq]
      rw [getElem!_pos (cp x) (j % 5) hc5]
    have eg : ∀ args w, (callFunc 34 args).run Try.prog w = .ok (.enter 34 args) w := enters_of Try.func34 (by kernel_rfl) rfl
    have hcon := Go.Proofs.AnyQ.slices_SortFunc Try.sortP 5 Try.isAgg52 Try.sizeOf52 cp (fun _ => rfl) (fun x v hv => cp_one [x] v (by simpa using hv)) ordI swo 34 #[] g 0 cap qs.toArray w eg (cmp_lays _ _ _ _) hH hg (by simp; omega)
    change Calls Try.prog 33 _ _ _ at hcon
    rw [List.size_toArray] at hcon
    refine hcon.mono ?_
    rintro e w' ⟨rfl, d', n, os, hp, hso, rfl⟩
    obtain ⟨hp1, _, hp3⟩ := hp
    replace hp1 : d'.size = qs.length := by simpa using hp1
    have hd : d'.toList = ps := by
      refine sorted_is (List.Perm.trans ?_ hperm) hr ?_
      · have a1 : d'.extract 0 qs.length = d' := by rw [← hp1]; simp
        have a2 : qs.toArray.extract 0 qs.length = qs.toArray := by
          have : qs.length = qs.toArray.size := by simp
          rw [this]; simp
        rw [a1, a2] at hp3
        simpa using hp3
      · rw [List.pairwise_iff_getElem]
        intro i j hi hj hij hlt
        have := hso i j (Nat.zero_le _) hij (by rw [← hp1]; simpa using hj)
        rw [getElem!_pos d' j (by simpa using hj), getElem!_pos d' i (by simpa using hi)] at this
        have h2 := (lt_of d'[j] d'[i]).2 (by simpa using hlt)
        rw [h2] at this; cases this
    obtain ⟨cur', c1, c2, c3, c4⟩ := sort_row (m := n) (os := os) (d' := d') hh (by rw [hp1, hs]; exact Nat.mul_le_mul_right 5 hc)
    rw [hd] at c3
    have e5 : d'.size = ps.length := by rw [← hd]; simp
    rw [e5] at c3
    refine ⟨rfl, ⟨by rw [flat_len cp_len], .inr ⟨g, cap, cur', by rw [hl], hb, c1, by omega, hm, by rw [c2]; exact hs, c3⟩⟩, ⟨c4.os, c4.tape, c4.output, c4.size, fun k hk hne => c4.block k hk (by simp only [List.mem_singleton]; intro e; subst e; exact hne rfl)⟩⟩
end Go.Proofs.Ytnplplhhldpgmaa
