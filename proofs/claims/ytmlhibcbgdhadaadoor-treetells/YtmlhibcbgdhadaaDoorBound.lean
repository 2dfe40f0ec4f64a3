/- The bound of the laws: what came in is counted. -/
import Derived.Test.YtmlhibcbgdhadaaDoorOpenN
import Derived.Test.YtmlhibcbgdhadaaDoorPrM
namespace Go.Proofs.YtmlhibcbgdhadaaDoor
open Go.RowKit

def moreN (n k : Nat) : Nat := if 2147483647 < n + k then 2147483648 else n + k
set_option maxRecDepth 100000 in
theorem more_c (n k : Nat) (hn : n ≤ 9223372036854775807) (hk : k ≤ 9223372036854775807) (w : World) :
    Calls Tryd.prog 25 #[.int .i64 n, .int .i64 k] w fun e w' => e = .returned (.int .i64 (moreN n k : Nat)) ∧ Only [] w w' := by
  by_cases h : 2147483647 < n
  · have h1 : (2147483647 : Int) < (n : Int) := by omega
    have e : moreN n k = 2147483648 := by unfold moreN; rw [if_pos (by omega)]
    rw [e]
    have HD := hid h
    clear h e
    go_enter Tryd.func25, Tryd.ntmps25
    go_wp2_with fail
    go_ret
    exact ⟨rfl, Only.refl _ _⟩
  · have h1 : ¬ (2147483647 : Int) < (n : Int) := by omega
    have hd : decide ((2147483647 : Int) < (n : Int)) = false := decide_eq_false h1
    by_cases g : 2147483647 < n + k
    · have g1 : (2147483647 : Int) - (n : Int) < (k : Int) := by omega
      have e : moreN n k = 2147483648 := by unfold moreN; rw [if_pos g]
      rw [e]
      clear g e h h1
      go_enter Tryd.func25, Tryd.ntmps25
      go_wp2_with fail
      go_ret
      exact ⟨rfl, Only.refl _ _⟩
    · have g1 : ¬ (2147483647 : Int) - (n : Int) < (k : Int) := by omega
      have gd : decide ((2147483647 : Int) - (n : Int) < (k : Int)) = false := decide_eq_false g1
      have e : moreN n k = n + k := by unfold moreN; rw [if_neg g]
      rw [e]
      clear g1 e h h1
      have hb : (n : Int) + (k : Int) ≤ 2147483647 := by omega
      go_enter Tryd.func25, Tryd.ntmps25
      go_wp2_with fail
      go_ret
      exact ⟨by simp, Only.refl _ _⟩
def bulkS (ns : List Nd) (k : Nat) : Nat := ((ns.take k).map (fun x => x.chs.length + x.font.size)).sum
theorem bulkS_succ {ns : List Nd} {n : Nat} {x : Nd} (h : ns[n]? = some x) : bulkS ns (n + 1) = bulkS ns n + (x.chs.length + x.font.size) := by
  obtain ⟨hn, he⟩ := List.getElem?_eq_some_iff.1 h
  unfold bulkS
  rw [List.take_succ_eq_append_getElem hn, List.map_append, List.sum_append, he]
  simp
set_option maxRecDepth 100000 in
set_option maxHeartbeats 4000000 in
theorem beyond_any {xs : List (Nd × Value)} {ad : Option Addr} {cap B : Nat} (w : World) (hNL : NL w B ad xs) (hl : xs.length ≤ 9223372036854775807) (hf : ∀ x ∈ xs, x.1.font.size ≤ 9223372036854775807 ∧ x.1.chs.length ≤ 9223372036854775807) :
    Calls Tryd.prog 9 #[.slice ad xs.length cap] w fun e w' => (∃ r, e = .returned (.bool r) ∧ (r = false → xs.length + bulkS (nds xs) xs.length ≤ 2147483647)) ∧ Only [] w w' := by
  have HNL := hid hNL
  have HF := hid hf
  obtain ⟨n, hn⟩ : ∃ n, xs.length = n := ⟨_, rfl⟩
  have HN := hid hn
  rw [hn] at hl ⊢
  clear hNL hf hn
  have hl2 : (n : Int) ≤ 9223372036854775807 := by omega
  go_enter Tryd.func9, Tryd.ntmps9
  go_wp2_with fail
  go_loopw [3, 4] (fun v i wr => ∃ k N : Nat, v = .int .i64 N ∧ i = .int .i64 k ∧ k ≤ n ∧ N ≤ 9223372036854775807 ∧ Hid (N ≤ 2147483647 → N = n + bulkS (nds xs) k) ∧ Only [] w wr) (fun _ i _ => n - (RowKit.intOf i).toNat)
  case atStart => exact ⟨0, n, rfl, rfl, by omega, by omega, fun _ => by simp [bulkS], Only.refl _ _⟩
  case round =>
    obtain ⟨k, N, rfl, rfl, hk, hNN, hS, ho⟩ := hrel
    by_cases hlt : k < n
    · by_cases hb : N ≤ 2147483647
      · obtain ⟨x, hx⟩ := some_at (xs := xs) (i := k) (by rw [HN.out]; exact hlt)
        have hnl := HNL.out.still ho
        obtain ⟨ca, cc, hcv, -⟩ := hnl.cv x (List.mem_of_getElem? hx)
        obtain ⟨ab, ao, rfl, -, abw, cx⟩ := hnl.at_ hx
        have hFx := HF.out x (List.mem_of_getElem? hx)
        obtain ⟨xn, xv⟩ := x
        dsimp only at hcv
        subst hcv
        obtain ⟨L, hL⟩ : ∃ L, xn.chs.length = L := ⟨_, rfl⟩
        obtain ⟨F, hF⟩ : ∃ F, xn.font = F := ⟨_, rfl⟩
        have HB := hid (bulkS_succ (nds_get hx))
        have HX := hid (cx)
        unfold ndc at HX
        dsimp only at HB HX hFx
        rw [hL, hF] at HB HX hFx
        have hF1 := hFx.1
        have hL1 := hFx.2
        have c12 := HX.out 12 _ rfl
        have HAT : Hid (∀ W, Only [] wr W → W.cell? ⟨ab, ao + k * 13 + 5, none⟩ = some (.string F)) := fun W o => (World.cell?_of_block (w := wr) (o.block ab abw (by simp))).trans (HX.out 5 _ rfl)
        have hkl : (k : Int) < (n : Int) := by omega
        have hk0 : (0 : Int) ≤ (k : Int) := by omega
        have hbb : (N : Int) ≤ 2147483647 := by omega
        have HO := hid ho
        have HLT := hid hlt
        have HNB := hid hb
        clear hx hnl hL hF hFx cx ho hlt hb hNN
        go_wp2_with fail
        refine (more_c N L (by have := HNB.out; omega) hL1 _).mono ?_
        rintro e w1 ⟨rfl, o1⟩
        have c5 := HAT.out _ o1
        have HO1 := hid (HO.out.trans o1)
        clear c12 o1
        obtain ⟨M, hM⟩ : ∃ M, moreN N L = M := ⟨_, rfl⟩
        rw [hM]
        have HM := hid hM
        clear hM
        go_wp2_with fail
        refine (more_c M F.size (by have h1 := HM.out; have h2 := HNB.out; unfold moreN at h1; split at h1 <;> omega) hF1 _).mono ?_
        rintro e w2 ⟨rfl, o2⟩
        have HO2 := hid (HO1.out.trans o2)
        clear c5 o2
        obtain ⟨M2, hM2⟩ : ∃ M2, moreN M F.size = M2 := ⟨_, rfl⟩
        rw [hM2]
        have HM2 := hid hM2
        clear hM2
        go_wp2_with fail
        go_roundw
        case rel =>
          refine ⟨k + 1, M2, rfl, by go_num, HLT.out, ?_, fun hb2 => ?_, HO2.out⟩
          · have := HM2.out; unfold moreN at this; split at this <;> omega
          · have h1 := HM.out
            have h2 := HM2.out
            have h3 := hS.out HNB.out
            have h4 := HB.out
            unfold moreN at h1 h2
            split at h2
            · omega
            · split at h1
              · omega
              · omega
        case measure => have := HLT.out; simp [RowKit.intOf]; omega
      · have hd : decide ((N : Int) ≤ 2147483647) = false := decide_eq_false (by omega)
        have hg : (2147483647 : Int) < (N : Int) := by omega
        have hkl : (k : Int) < (n : Int) := by omega
        have HO := hid ho
        clear ho hlt hb
        go_wp2_with fail
        go_ret
        exact ⟨⟨true, rfl, fun h => by cases h⟩, HO.out⟩
    · obtain rfl : k = n := by omega
      have HO := hid ho
      clear ho hlt hk
      by_cases hb : N ≤ 2147483647
      · have hd : decide ((2147483647 : Int) < (N : Int)) = false := decide_eq_false (by omega)
        have HNB := hid hb
        clear hb
        go_wp2_with fail
        go_ret
        exact ⟨⟨false, rfl, fun _ => by have := hS.out HNB.out; have := HNB.out; omega⟩, HO.out⟩
      · have hg : (2147483647 : Int) < (N : Int) := by omega
        clear hb
        go_wp2_with fail
        go_ret
        exact ⟨⟨true, rfl, fun h => by cases h⟩, HO.out⟩
theorem bulk_mem {ns : List Nd} {x : Nd} (h : x ∈ ns) : x.chs.length + x.font.size ≤ bulkS ns ns.length := by
  unfold bulkS
  rw [List.take_length]
  induction ns with
  | nil => cases h
  | cons y r ih =>
    simp only [List.map_cons, List.sum_cons]
    rcases List.mem_cons.1 h with rfl | h
    · omega
    · have := ih h; omega
theorem sum_bulk (ns : List Nd) : sumC ns ns.length ≤ bulkS ns ns.length := by
  unfold bulkS sumC
  rw [List.take_length]
  induction ns with
  | nil => simp
  | cons x r ih => simp only [List.map_cons, List.sum_cons]; omega
end Go.Proofs.YtmlhibcbgdhadaaDoor
