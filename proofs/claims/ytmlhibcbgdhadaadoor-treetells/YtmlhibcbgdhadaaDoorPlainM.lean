/- The examples' document: what is told of it. -/
import Derived.Test.YtmlhibcbgdhadaaDoorPrn
import Derived.Test.YtmlhibcbgdhadaaDoorInts
import Derived.Test.YtmlhibcbgdhadaaDoorWays
import Derived.Test.YtmlhibcbgdhadaaDoorSame1
namespace Go.Proofs.YtmlhibcbgdhadaaDoor
open Go.RowKit

def plainN : List Nd := [
  ⟨1, -1, 0, 0, 13, { data := #[70] }, 0, 6553600, 3276800, 0, 0, 0, []⟩,
  ⟨2, 0, 0, 0, 0, { data := #[] }, 0, 0, 0, 0, 0, 0, []⟩,
  ⟨4, 1, 0, 0, 0, { data := #[] }, 0, 0, 0, 0, 0, 0, [(97, 0, 0), (60, 0, 0)]⟩,
  ⟨3, 1, 0, 0, 2, { data := #[] }, 786432, 0, 0, 0, 0, 0, []⟩,
  ⟨4, 3, 0, 0, 0, { data := #[] }, 0, 0, 0, 0, 0, 0, [(98, 0, 0)]⟩,
  ⟨5, 1, 0, 0, 0, { data := #[] }, 0, 0, 0, 0, 0, 0, []⟩]
def plain2 : List Nd := plainN.set 5 ⟨5, 4, 0, 0, 0, { data := #[] }, 0, 0, 0, 0, 0, 0, []⟩
theorem plain_nds (h : Nat) : nds (plainX h) = plainN := rfl
theorem plain_chk : chkN plainN = (0, 0) := by decide +kernel
theorem plain2_chk : chkN plain2 = (5, 90) := by decide +kernel
theorem plain_sum : sumC plainN plainN.length = 3 := by decide
theorem plain_kids : kidsOf plainN 1 = [2, 3, 5] := by decide +kernel
theorem plain_path4 : pathOf plainN 4 = [0, 1, 3, 4] := by decide +kernel
theorem plain_path9 : pathOf plainN 9 = [] := by decide +kernel
theorem plain_same : sameL plainN plainN = true := by decide +kernel
theorem plain_diff : sameL plainN plain2 = false := by decide +kernel
theorem dec_10 : bl (U.decS 10) = [49, 48] := by
  rw [U.decS_big (by decide), U.bl_append, U.bl_digit _ (by decide), U.bl_digit _ (by decide)]; rfl
theorem dec_100 : bl (U.decS 100) = [49, 48, 48] := by
  rw [U.decS_big (by decide), U.bl_append, show 100 / 10 = 10 from rfl, dec_10, U.bl_digit _ (by decide)]; rfl
theorem dec_50 : bl (U.decS 50) = [53, 48] := by
  rw [U.decS_big (by decide), U.bl_append, U.bl_digit _ (by decide), U.bl_digit _ (by decide)]; rfl
theorem dec_12 : bl (U.decS 12) = [49, 50] := by
  rw [U.decS_big (by decide), U.bl_append, U.bl_digit _ (by decide), U.bl_digit _ (by decide)]; rfl
theorem prT_100 : bl (prT 6553600) = [49, 48, 48] := by
  unfold prT; rw [if_pos (by decide)]; unfold U.prS; rw [if_pos (by decide)]; exact dec_100
theorem prT_50 : bl (prT 3276800) = [53, 48] := by
  unfold prT; rw [if_pos (by decide)]; unfold U.prS; rw [if_pos (by decide)]; exact dec_50
theorem prT_12 : bl (prT 786432) = [49, 50] := by
  unfold prT; rw [if_pos (by decide)]; unfold U.prS; rw [if_pos (by decide)]; exact dec_12
theorem range7 : List.range 7 = [0, 1, 2, 3, 4, 5, 6] := rfl
theorem atts0 : attsB (nd plainN 0) = [32, 119, 105, 100, 116, 104, 61, 34, 49, 48, 48, 34, 32, 104, 101, 105, 103, 104, 116, 61, 34, 53, 48, 34, 32, 102, 111, 110, 116, 61, 34, 70, 34] := by
  have h : ∀ j, hb (nd plainN 0) (aBit j) = (j == 0 || j == 1 || j == 2) ∨ 6 < j := by
    intro j
    rcases Nat.lt_or_ge 6 j with g | g
    · exact .inr g
    · obtain rfl | rfl | rfl | rfl | rfl | rfl | rfl : j = 0 ∨ j = 1 ∨ j = 2 ∨ j = 3 ∨ j = 4 ∨ j = 5 ∨ j = 6 := by omega
      all_goals exact .inl (by decide +kernel)
  have a0 : attB (nd plainN 0) 0 = [32] ++ bl (aNm 0) ++ [61, 34] ++ [49, 48, 48] ++ [34] := by
    unfold attB; rw [if_pos (by decide +kernel), show aVl (nd plainN 0) 0 = prT 6553600 from rfl, prT_100]
  have a1 : attB (nd plainN 0) 1 = [32] ++ bl (aNm 1) ++ [61, 34] ++ [53, 48] ++ [34] := by
    unfold attB; rw [if_pos (by decide +kernel), show aVl (nd plainN 0) 1 = prT 3276800 from rfl, prT_50]
  have a2 : attB (nd plainN 0) 2 = [32] ++ bl (aNm 2) ++ [61, 34] ++ [70] ++ [34] := by
    unfold attB; rw [if_pos (by decide +kernel)]; rfl
  have a3 : ∀ j, 3 ≤ j → j ≤ 6 → attB (nd plainN 0) j = [] := by
    intro j h1 h2
    unfold attB
    rcases h j with g | g
    · rw [if_neg (by rw [g]; simp; omega)]
    · omega
  unfold attsB
  rw [range7]
  simp only [List.flatMap_cons, List.flatMap_nil, List.append_nil]
  rw [a0, a1, a2, a3 3 (by decide) (by decide), a3 4 (by decide) (by decide), a3 5 (by decide) (by decide), a3 6 (by decide) (by decide)]
  rfl
theorem atts3 : attsB (nd plainN 3) = [32, 115, 105, 122, 101, 61, 34, 49, 50, 34] := by
  have a3 : attB (nd plainN 3) 3 = [32] ++ bl (aNm 3) ++ [61, 34] ++ [49, 50] ++ [34] := by
    unfold attB; rw [if_pos (by decide +kernel), show aVl (nd plainN 3) 3 = prT 786432 from rfl, prT_12]
  have a0 : attB (nd plainN 3) 0 = [] := by unfold attB; rw [if_neg (by decide +kernel)]
  have a1 : attB (nd plainN 3) 1 = [] := by unfold attB; rw [if_neg (by decide +kernel)]
  have a2 : attB (nd plainN 3) 2 = [] := by unfold attB; rw [if_neg (by decide +kernel)]
  have a4 : attB (nd plainN 3) 4 = [] := by unfold attB; rw [if_neg (by decide +kernel)]
  have a5 : attB (nd plainN 3) 5 = [] := by unfold attB; rw [if_neg (by decide +kernel)]
  have a6 : attB (nd plainN 3) 6 = [] := by unfold attB; rw [if_neg (by decide +kernel)]
  unfold attsB
  rw [range7]
  simp only [List.flatMap_cons, List.flatMap_nil, List.append_nil]
  rw [a0, a1, a2, a3, a4, a5, a6]
  rfl
theorem atts1 : attsB (nd plainN 1) = [] := by
  unfold attsB
  rw [List.flatMap_eq_nil_iff]
  intro j hj
  have := List.mem_range.1 hj
  obtain rfl | rfl | rfl | rfl | rfl | rfl | rfl : j = 0 ∨ j = 1 ∨ j = 2 ∨ j = 3 ∨ j = 4 ∨ j = 5 ∨ j = 6 := by omega
  all_goals (unfold attB; rw [if_neg (by decide +kernel)])
def plainT : List Nat := [60, 100, 111, 99, 32, 119, 105, 100, 116, 104, 61, 34, 49, 48, 48, 34, 32, 104, 101, 105, 103, 104, 116, 61, 34, 53, 48, 34, 32, 102, 111, 110, 116, 61, 34, 70, 34, 62, 60, 112, 62, 97, 38, 108, 116, 59, 60, 115, 32, 115, 105, 122, 101, 61, 34, 49, 50, 34, 62, 98, 60, 47, 115, 62, 60, 98, 114, 47, 62, 60, 47, 112, 62, 60, 47, 100, 111, 99, 62]
theorem item0 : itemB (nd plainN 0) = [60, 100, 111, 99] ++ attsB (nd plainN 0) ++ [62] := rfl
theorem item1 : itemB (nd plainN 1) = [60, 112] ++ attsB (nd plainN 1) ++ [62] := rfl
theorem item3 : itemB (nd plainN 3) = [60, 115] ++ attsB (nd plainN 3) ++ [62] := rfl
theorem item2 : itemB (nd plainN 2) = [97, 38, 108, 116, 59] := by decide +kernel
theorem item4 : itemB (nd plainN 4) = [98] := by decide +kernel
theorem item5 : itemB (nd plainN 5) = [60, 98, 114, 47, 62] := rfl
theorem runP_snd (ns : List Nd) (n : Nat) : (runP ns (n + 1)).2 = (runP ns n).2 ++ (clos ns (np ns n) (runP ns n).1).2 ++ itemB (nd ns n) := rfl
theorem plain_prt : prt plainN = plainT := by
  have e : prt plainN = itemB (nd plainN 0) ++ itemB (nd plainN 1) ++ itemB (nd plainN 2) ++ itemB (nd plainN 3) ++ itemB (nd plainN 4) ++ [60, 47, 115, 62] ++ itemB (nd plainN 5) ++ [60, 47, 112, 62, 60, 47, 100, 111, 99, 62] := by
    have c0 : (clos plainN (np plainN 0) (runP plainN 0).1).2 = [] := by decide +kernel
    have c1 : (clos plainN (np plainN 1) (runP plainN 1).1).2 = [] := by decide +kernel
    have c2 : (clos plainN (np plainN 2) (runP plainN 2).1).2 = [] := by decide +kernel
    have c3 : (clos plainN (np plainN 3) (runP plainN 3).1).2 = [] := by decide +kernel
    have c4 : (clos plainN (np plainN 4) (runP plainN 4).1).2 = [] := by decide +kernel
    have c5 : (clos plainN (np plainN 5) (runP plainN 5).1).2 = [60, 47, 115, 62] := by decide +kernel
    have c6 : (clos plainN (-1) (runP plainN 6).1).2 = [60, 47, 112, 62, 60, 47, 100, 111, 99, 62] := by decide +kernel
    unfold prt
    rw [show plainN.length = 6 from rfl, c6, runP_snd, c5, runP_snd, c4, runP_snd, c3, runP_snd, c2, runP_snd, c1, runP_snd, c0]
    simp only [List.append_nil]
    rfl
  rw [e, item0, item1, item3, item2, item4, item5, atts0, atts1, atts3]
  rfl
end Go.Proofs.YtmlhibcbgdhadaaDoor
