/- What is written of a document: as mathematics. -/
import Derived.Test.YtmlhibcbgdhadaaDoorChk
namespace Go.Proofs.YtmlhibcbgdhadaaDoor
open Go.RowKit

/-- an attribute as it is written, if it is there -/
def attB (x : Nd) (j : Nat) : List Nat := if hb x (aBit j) then [32] ++ bl (aNm j) ++ [61, 34] ++ bl (aVl x j) ++ [34] else []
def attsB (x : Nd) : List Nat := (List.range 7).flatMap (attB x)
def tagB (x : Nd) : List Nat := 60 :: nameB x.kind ++ attsB x ++ [62]
def itemB (x : Nd) : List Nat := if x.kind = 4 then (textM x.chs).getD [] else if x.kind = 5 then [60, 98, 114, 47, 62] else tagB x
/-- the open ones (the last one opened first) and the text, behind n nodes -/
def runP (ns : List Nd) : Nat → List Nat × List Nat
  | 0 => ([], [])
  | n + 1 => ((if (nk ns n = 4 ∨ nk ns n = 5) then (clos ns (np ns n) (runP ns n).1).1 else n :: (clos ns (np ns n) (runP ns n).1).1), (runP ns n).2 ++ (clos ns (np ns n) (runP ns n).1).2 ++ itemB (nd ns n))
def prt (ns : List Nd) : List Nat := (runP ns ns.length).2 ++ (clos ns (-1) (runP ns ns.length).1).2

theorem prS_size (n : Nat) (h : n ≤ 70368744177664) : (U.prS n).size ≤ 22 := by
  unfold U.prS
  split
  · rw [U.decS_size]; have := U.nDigits_le (n := n / 65536) (by omega); omega
  · rw [ByteArray.size_append, U.decS_size]; have := U.nDigits_le (n := n) (by omega); show _ + 2 ≤ 22; omega
theorem prT_size (n : Int) : (prT n).size ≤ 22 := by
  unfold prT
  split
  · exact prS_size _ (by omega)
  · decide
theorem tolS_size {n : Int} (h0 : 0 ≤ n) (h1 : n ≤ 10000) : (tolS n).size ≤ 20 := by
  unfold tolS Lib.itoa
  rw [if_neg (by omega)]
  have := U.nDigits_le (n := n.toNat) (by omega)
  show (Lib.decDigits n.toNat).toArray.size ≤ 20
  rw [List.size_toArray, Lib.decDigits_length]; exact this
theorem okA_of {x : Nd} (h : atr x = true) {j : Nat} (hj : j < 7) : okA x j = true := by
  rw [atr_eq] at h
  simp only [Bool.and_eq_true] at h
  exact List.all_eq_true.1 h.2 j (List.mem_range.2 hj)
theorem aVl_size {x : Nd} (h : atr x = true) {j : Nat} (hj : j < 7) (hb' : hb x (aBit j) = true) : (aVl x j).size ≤ 32 := by
  have ho := okA_of h hj
  unfold okA at ho
  rw [if_pos hb'] at ho
  obtain rfl | rfl | rfl | rfl | rfl | rfl | rfl : j = 0 ∨ j = 1 ∨ j = 2 ∨ j = 3 ∨ j = 4 ∨ j = 5 ∨ j = 6 := by omega
  · have := prT_size x.width; show (prT x.width).size ≤ 32; omega
  · have := prT_size x.height; show (prT x.height).size ≤ 32; omega
  · have : nam x.font = true := ho
    unfold nam at this
    simp only [Bool.and_eq_true, decide_eq_true_eq] at this
    exact this.1.2
  · have := prT_size x.size; show (prT x.size).size ≤ 32; omega
  · have := prT_size x.lead; show (prT x.lead).size ≤ 32; omega
  · have := prT_size x.skip; show (prT x.skip).size ≤ 32; omega
  · have h1 : tolB x.tol = true := ho
    unfold tolB at h1
    have := of_decide_eq_true h1
    have := tolS_size this.1 this.2
    show (tolS x.tol).size ≤ 32; omega
theorem aNm_size (j : Nat) : (aNm j).size ≤ 6 := by
  unfold aNm
  split <;> decide
theorem attB_len {x : Nd} (h : atr x = true) {j : Nat} (hj : j < 7) : (attB x j).length ≤ 42 := by
  unfold attB
  split
  · next hb' =>
    have h1 := aVl_size h hj hb'
    have h2 := aNm_size j
    simp only [List.length_append, bl_length, List.length_cons, List.length_nil]
    omega
  · simp
theorem range_flat_succ (f : Nat → List Nat) (k : Nat) : (List.range (k + 1)).flatMap f = (List.range k).flatMap f ++ f k := by
  rw [List.range_succ, List.flatMap_append, List.flatMap_cons, List.flatMap_nil, List.append_nil]
theorem attsB_len {x : Nd} (h : atr x = true) : ∀ k, k ≤ 7 → ((List.range k).flatMap (attB x)).length ≤ 42 * k
  | 0, _ => by simp
  | k + 1, hk => by
    have := attsB_len h k (by omega)
    have := attB_len h (j := k) (by omega)
    rw [range_flat_succ, List.length_append]; omega
theorem nameB_len (k : Int) : (nameB k).length ≤ 3 := by
  unfold nameB
  repeat' split
  all_goals decide
theorem tagB_len {x : Nd} (h : atr x = true) : (tagB x).length ≤ 300 := by
  have h1 := attsB_len h 7 (Nat.le_refl _)
  have := nameB_len x.kind
  unfold tagB attsB
  simp only [List.length_append, List.length_cons, List.length_nil]
  omega
theorem textM_len {l : List (Int × Int × Int)} {bs : List Nat} (h : textM l = some bs) : bs.length ≤ 6 * l.length := by
  unfold textM at h
  split at h
  · have := txs_len l; cases h; exact this
  · cases h
theorem itemB_len {x : Nd} (h : atr x = true) : (itemB x).length ≤ 6 * x.chs.length + 300 := by
  unfold itemB
  split
  · rcases ht : textM x.chs with _ | bs
    · simp
    · have := textM_len ht; simp; omega
  · split
    · simp
    · have := tagB_len h; omega
theorem ctag_len (ns : List Nd) (i : Nat) : (ctag ns i).length ≤ 6 := by
  have := nameB_len (nk ns i)
  unfold ctag
  simp only [List.length_append, List.length_cons, List.length_nil]; omega
theorem clos_len (ns : List Nd) (p : Int) : ∀ l : List Nat, (clos ns p l).2.length + 6 * (clos ns p l).1.length ≤ 6 * l.length
  | [] => by simp [clos]
  | t :: r => by
    have h1 := clos_len ns p r
    have h2 := ctag_len ns t
    unfold clos
    split
    · simp
    · simp only [List.length_append, List.length_cons]; omega
def sumC (ns : List Nd) (n : Nat) : Nat := ((ns.take n).map (fun x => x.chs.length)).sum
theorem sumC_succ {ns : List Nd} {n : Nat} (hn : n < ns.length) : sumC ns (n + 1) = sumC ns n + (nd ns n).chs.length := by
  unfold sumC
  rw [List.take_succ_eq_append_getElem hn, List.map_append, List.sum_append, nd_of (List.getElem?_eq_getElem hn)]
  simp
theorem ok_atr {ns : List Nd} {n : Nat} (h : ok ns n = true) : atr (nd ns n) = true := by unfold ok at h; simp at h; exact h.1.2
theorem runP_len {ns : List Nd} : ∀ n, n ≤ ns.length → Gd ns n → (runP ns n).2.length + 6 * (runP ns n).1.length ≤ 6 * sumC ns n + 306 * n
  | 0, _, _ => by simp [runP, sumC]
  | n + 1, hn, hg => by
    have h1 := runP_len n (by omega) (hg.mono (Nat.le_succ _))
    have h2 := clos_len ns (np ns n) (runP ns n).1
    have h3 := itemB_len (ok_atr (hg n (Nat.lt_succ_self _)))
    rw [sumC_succ (by omega)]
    unfold runP
    simp only [List.length_append]
    split
    · omega
    · simp only [List.length_cons]; omega
theorem prt_len {ns : List Nd} (hg : Gd ns ns.length) : (prt ns).length ≤ 6 * sumC ns ns.length + 306 * ns.length := by
  have h1 := runP_len ns.length (Nat.le_refl _) hg
  have h2 := clos_len ns (-1) (runP ns ns.length).1
  unfold prt
  rw [List.length_append]; omega
/-- bytes alone -/
theorem attB_lt (x : Nd) (j : Nat) : ∀ b ∈ attB x j, b < 256 := by
  intro b hb'
  unfold attB at hb'
  split at hb'
  · simp only [List.mem_append, List.mem_cons, List.not_mem_nil, or_false] at hb'
    rcases hb' with ((((rfl | h) | (rfl | rfl)) | h) | rfl)
    · decide
    · exact bl_lt _ b h
    · decide
    · decide
    · exact bl_lt _ b h
    · decide
  · cases hb'
theorem nameB_lt (k : Int) : ∀ b ∈ nameB k, b < 256 := by
  unfold nameB
  repeat' split
  all_goals decide
theorem tagB_lt (x : Nd) : ∀ b ∈ tagB x, b < 256 := by
  intro b hb'
  unfold tagB attsB at hb'
  simp only [List.cons_append, List.mem_cons, List.mem_append, List.not_mem_nil, or_false, List.mem_flatMap] at hb'
  rcases hb' with rfl | (h | ⟨j, -, h⟩) | rfl
  · decide
  · exact nameB_lt _ b h
  · exact attB_lt x j b h
  · decide
theorem textM_lt {l : List (Int × Int × Int)} {bs : List Nat} (h : textM l = some bs) : ∀ b ∈ bs, b < 256 := by
  unfold textM at h
  split at h
  · next ha =>
    cases h
    intro b hb'
    obtain ⟨x, hx, hbx⟩ := List.mem_flatMap.1 hb'
    have := List.all_eq_true.1 ha x hx
    unfold isR at this
    simp at this
    exact tx_lt this.2 b hbx
  · cases h
theorem itemB_lt (x : Nd) : ∀ b ∈ itemB x, b < 256 := by
  unfold itemB
  split
  · rcases ht : textM x.chs with _ | bs
    · intro b hb'; cases hb'
    · exact textM_lt ht
  · split
    · decide
    · exact tagB_lt x
theorem ctag_lt (ns : List Nd) (i : Nat) : ∀ b ∈ ctag ns i, b < 256 := by
  intro b hb'
  unfold ctag at hb'
  simp only [List.mem_append, List.mem_cons, List.not_mem_nil, or_false] at hb'
  rcases hb' with ((rfl | rfl) | h) | rfl
  · decide
  · decide
  · exact nameB_lt _ b h
  · decide
theorem clos_lt (ns : List Nd) (p : Int) : ∀ l : List Nat, ∀ b ∈ (clos ns p l).2, b < 256
  | [] => by simp [clos]
  | t :: r => by
    have h1 := clos_lt ns p r
    unfold clos
    split
    · simp
    · intro b hb'
      rcases List.mem_append.1 hb' with h | h
      · exact ctag_lt ns t b h
      · exact h1 b h
theorem runP_lt (ns : List Nd) : ∀ n, ∀ b ∈ (runP ns n).2, b < 256
  | 0 => by simp [runP]
  | n + 1 => by
    intro b hb'
    unfold runP at hb'
    simp only [List.mem_append] at hb'
    rcases hb' with (h | h) | h
    · exact runP_lt ns n b h
    · exact clos_lt ns _ _ b h
    · exact itemB_lt _ b h
theorem prt_lt (ns : List Nd) : ∀ b ∈ prt ns, b < 256 := by
  intro b hb'
  unfold prt at hb'
  rcases List.mem_append.1 hb' with h | h
  · exact runP_lt ns _ b h
  · exact clos_lt ns _ _ b h
end Go.Proofs.YtmlhibcbgdhadaaDoor
