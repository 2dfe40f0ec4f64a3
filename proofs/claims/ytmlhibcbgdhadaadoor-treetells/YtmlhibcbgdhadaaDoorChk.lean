/- Check, Kids, Path: the program's. -/
import Derived.Test.YtmlhibcbgdhadaaDoorSay
import Derived.Test.YtmlhibcbgdhadaaDoorHas
namespace Go.Proofs.YtmlhibcbgdhadaaDoor
open Go.RowKit

set_option maxRecDepth 100000 in
set_option maxHeartbeats 8000000 in
theorem right_any {xs : List (Nd × Value)} {ad : Option Addr} {cap C n : Nat} (hg : Gd (nds xs) n) (hn : n < xs.length) (hlen : xs.length ≤ 4294967296) (hf : ∀ x ∈ xs, Fit x.1) (w : World) (hNL : NL w C ad xs) (hC : C ≤ w.heap.size) (hT : Tt w) :
    Calls Tryd.prog 27 #[.slice ad xs.length cap, .int .i64 n] w fun e w' => e = .returned (.bool (ok (nds xs) n)) ∧ Only [] w w' := by
  obtain ⟨x, hx⟩ := some_at (xs := xs) (i := n) hn
  have hxm := List.mem_of_getElem? hx
  obtain ⟨xn, xv⟩ := x
  obtain ⟨ca, cc, hcv, -⟩ := hNL.cv _ hxm
  dsimp only at hcv
  subst hcv
  obtain ⟨b, off, rfl, hbC, hbw, hc⟩ := hNL.at_ hx
  have hkx := nk_of (nds_get hx)
  have hdx := nd_of (nds_get hx)
  have hO : ok (nds xs) n = (plc (nds xs) n && atr xn && say (nds xs) n) := by unfold ok; rw [hdx]
  have hnl : (n : Int) < (xs.length : Int) := by omega
  have hn0 : (0 : Int) ≤ (n : Int) := by omega
  have c0 := hc 0 _ rfl
  simp only [Nat.add_zero] at c0
  have HI := hid (fun W => isKind_any xn.kind W)
  have HC := hid hc
  rcases hik : isK xn.kind with _ | _
  · have HF : Hid (ok (nds xs) n = false) := by
      show _ = _
      rw [hO]
      rcases hp : plc (nds xs) n with _ | _
      · rfl
      · have := plc_kind hp
        rw [hkx] at this
        unfold isK at hik
        rw [decide_eq_true this] at hik; cases hik
    rw [hik] at HI
    clear hc hkx hdx hO hik hg hn hlen hf hNL hC hT hx hxm
    generalize xs.length = N at *
    go_enter Tryd.func27, Tryd.ntmps27
    go_wp2_with fail
    refine (HI.out _).mono ?_
    rintro e w1 ⟨rfl, rfl⟩
    go_wp2_with fail
    go_ret
    exact ⟨ret_bool HF.out.symm, Only.refl _ _⟩
  · rw [hik] at HI
    have HS := hid (fun W (o : Only [] w W) => stands_any (cap := cap) hg hn hlen (by rw [hkx]; exact hik) W (hNL.still o) (Nat.le_trans hC o.size) (hT.still o))
    rcases hp : plc (nds xs) n with _ | _
    · have HF : Hid (ok (nds xs) n = false) := by show _ = _; rw [hO, hp]; rfl
      rw [hp] at HS
      clear hc hkx hdx hO hik hg hn hlen hf hNL hC hT hx hxm hp
      generalize xs.length = N at *
      go_enter Tryd.func27, Tryd.ntmps27
      go_wp2_with fail
      refine (HI.out _).mono ?_
      rintro e w1 ⟨rfl, rfl⟩
      go_wp2_with fail
      refine (HS.out _ (Only.refl _ _)).mono ?_
      rintro e w2 ⟨rfl, ho⟩
      have HO := hid ho
      clear ho
      go_wp2_with fail
      go_ret
      exact ⟨ret_bool HF.out.symm, HO.out⟩
    · rw [hp] at HS
      obtain ⟨k, hk, hk1, hk5⟩ := nk_nat hp
      rw [hkx] at hk
      have HA := hid (fun W (o : Only [] w W) => has_any (xn, .slice ca xn.chs.length cc) (hf _ hxm) hk hk1 hk5 W (hT.still o))
      have c1 := hc 1 _ rfl
      have c2 := hc 2 _ rfl
      have c3 := hc 3 _ rfl
      have c4 := hc 4 _ rfl
      have c5 := hc 5 _ rfl
      have c6 := hc 6 _ rfl
      have c7 := hc 7 _ rfl
      have c8 := hc 8 _ rfl
      have c9 := hc 9 _ rfl
      have c10 := hc 10 _ rfl
      have c11 := hc 11 _ rfl
      have c12 := hc 12 _ rfl
      unfold ndc at HA
      dsimp only at HA c0 c1 c2 c3 c4 c5 c6 c7 c8 c9 c10 c11 c12
      have HBW := hid hbw
      have HW : Hid (∀ W, Only [] w W → ∀ i v, w.cell? ⟨b, i, none⟩ = some v → W.cell? ⟨b, i, none⟩ = some v) := fun W o i v h => cell_keep o HBW.out h
      have HSY := hid (fun W (o : Only [] w W) => says_any (cap := cap) hn (fun e => by
        rcases Nat.eq_zero_or_pos n with q | q
        · subst q; have := (plc_zero hp).1; omega
        · exact q) hlen hf W (hNL.still o) (hT.still o))
      obtain ⟨m, hm⟩ : ∃ m, xn.chs.length = m := ⟨_, rfl⟩
      rw [hm] at HA c12
      rcases ha : atr xn with _ | _
      · have HF : Hid (ok (nds xs) n = false) := by show _ = _; rw [hO, hp, ha]; rfl
        rw [ha] at HA
        clear hm hc hkx hdx hO hik hg hn hlen hf hNL hC hT hx hxm hp hk hk1 hk5 ha HC
        generalize xs.length = N at *
        go_enter Tryd.func27, Tryd.ntmps27
        go_wp2_with fail
        refine (HI.out _).mono ?_
        rintro e w1 ⟨rfl, rfl⟩
        go_wp2_with fail
        refine (HS.out _ (Only.refl _ _)).mono ?_
        rintro e w2 ⟨rfl, ho⟩
        have HO := hid ho
        replace c0 := HW.out w2 ho _ _ c0
        replace c1 := HW.out w2 ho _ _ c1
        replace c2 := HW.out w2 ho _ _ c2
        replace c3 := HW.out w2 ho _ _ c3
        replace c4 := HW.out w2 ho _ _ c4
        replace c5 := HW.out w2 ho _ _ c5
        replace c6 := HW.out w2 ho _ _ c6
        replace c7 := HW.out w2 ho _ _ c7
        replace c8 := HW.out w2 ho _ _ c8
        replace c9 := HW.out w2 ho _ _ c9
        replace c10 := HW.out w2 ho _ _ c10
        replace c11 := HW.out w2 ho _ _ c11
        replace c12 := HW.out w2 ho _ _ c12
        clear ho
        go_wp2_with fail
        refine (HA.out _ HO.out).mono ?_
        rintro e w3 ⟨rfl, ho3⟩
        have HO3 := hid ho3
        clear ho3
        go_wp2_with fail
        go_ret
        exact ⟨ret_bool HF.out.symm, HO.out.trans HO3.out⟩
      · have HF : Hid (ok (nds xs) n = say (nds xs) n) := by show _ = _; rw [hO, hp, ha]; rfl
        rw [ha] at HA
        clear hm hc hkx hdx hO hik hg hn hlen hf hNL hC hT hx hxm hp hk hk1 hk5 ha HC
        generalize xs.length = N at *
        go_enter Tryd.func27, Tryd.ntmps27
        go_wp2_with fail
        refine (HI.out _).mono ?_
        rintro e w1 ⟨rfl, rfl⟩
        go_wp2_with fail
        refine (HS.out _ (Only.refl _ _)).mono ?_
        rintro e w2 ⟨rfl, ho⟩
        have HO := hid ho
        replace c0 := HW.out w2 ho _ _ c0
        replace c1 := HW.out w2 ho _ _ c1
        replace c2 := HW.out w2 ho _ _ c2
        replace c3 := HW.out w2 ho _ _ c3
        replace c4 := HW.out w2 ho _ _ c4
        replace c5 := HW.out w2 ho _ _ c5
        replace c6 := HW.out w2 ho _ _ c6
        replace c7 := HW.out w2 ho _ _ c7
        replace c8 := HW.out w2 ho _ _ c8
        replace c9 := HW.out w2 ho _ _ c9
        replace c10 := HW.out w2 ho _ _ c10
        replace c11 := HW.out w2 ho _ _ c11
        replace c12 := HW.out w2 ho _ _ c12
        clear ho
        go_wp2_with fail
        refine (HA.out _ HO.out).mono ?_
        rintro e w3 ⟨rfl, ho3⟩
        have HO3 := hid (HO.out.trans ho3)
        clear ho3
        go_wp2_with fail
        refine (HSY.out _ HO3.out).mono ?_
        rintro e w4 ⟨rfl, ho4⟩
        have HO4 := hid (HO3.out.trans ho4)
        clear ho4
        obtain ⟨r, hr⟩ : ∃ r, say (nds xs) n = r := ⟨_, rfl⟩
        rw [hr] at HF ⊢
        clear hr
        go_wp2_with fail
        go_ret
        exact ⟨ret_bool HF.out.symm, HO4.out⟩

theorem chk_wrong {ns : List Nd} {n : Nat} (h8 : ns.length ≤ 8192) (hg : Gd ns n) (hn : n < ns.length) (ho : ok ns n = false) : chkN ns = ((n : Int), 90) := by
  unfold chkN
  rw [if_neg (by omega), if_neg (by omega)]
  have : (List.range ns.length).find? (fun n => !ok ns n) = some n := by
    rw [List.find?_range_eq_some]
    refine ⟨by simp [ho], List.mem_range.2 hn, fun j hj => ?_⟩
    rw [hg j hj]; rfl
  rw [this]
theorem chk_right {ns : List Nd} (h8 : ns.length ≤ 8192) (h0 : ns.length ≠ 0) (hg : Gd ns ns.length) : chkN ns = (0, 0) := by
  unfold chkN
  rw [if_neg (by omega), if_neg h0]
  have : (List.range ns.length).find? (fun n => !ok ns n) = none := by
    rw [List.find?_eq_none]
    intro j hj
    rw [hg j (List.mem_range.1 hj)]; decide
  rw [this]
/-- a document -/
def Doc (ns : List Nd) : Prop := ns.length ≤ 8192 ∧ ns.length ≠ 0 ∧ Gd ns ns.length
theorem chk_doc {ns : List Nd} : (chkN ns).2 = 0 ↔ Doc ns := by
  constructor
  · intro h
    unfold chkN at h
    split at h
    · cases h
    · next h1 =>
      split at h
      · cases h
      · next h2 =>
        refine ⟨by omega, h2, fun i hi => ?_⟩
        rcases hf : (List.range ns.length).find? (fun n => !ok ns n) with _ | n
        · have := List.find?_eq_none.1 hf i (List.mem_range.2 hi)
          simpa using this
        · rw [hf] at h; cases h
  · rintro ⟨h1, h2, h3⟩
    rw [chk_right h1 h2 h3]
/-- what Check tells of any nodes -/
theorem chk_ways (ns : List Nd) : (8192 < ns.length ∧ chkN ns = (0, 91)) ∨ (ns.length = 0 ∧ chkN ns = (0, 90)) ∨ (ns.length ≤ 8192 ∧ ∃ n : Nat, n < ns.length ∧ Gd ns n ∧ ok ns n = false ∧ chkN ns = ((n : Int), 90)) ∨ (Doc ns ∧ chkN ns = (0, 0)) := by
  by_cases h1 : 8192 < ns.length
  · exact .inl ⟨h1, by unfold chkN; rw [if_pos h1]⟩
  by_cases h2 : ns.length = 0
  · exact .inr (.inl ⟨h2, by unfold chkN; rw [if_neg h1, if_pos h2]⟩)
  by_cases h3 : Gd ns ns.length
  · exact .inr (.inr (.inr ⟨⟨by omega, h2, h3⟩, chk_right (by omega) h2 h3⟩))
  · refine .inr (.inr (.inl ⟨by omega, ?_⟩))
    rcases hf : (List.range ns.length).find? (fun n => !ok ns n) with _ | n
    · exact absurd (fun i hi => by have := List.find?_eq_none.1 hf i (List.mem_range.2 hi); simpa using this) h3
    · obtain ⟨a, b, c⟩ := List.find?_range_eq_some.1 hf
      have hn := List.mem_range.1 b
      have hg : Gd ns n := fun j hj => by have := c j hj; simpa using this
      have ho : ok ns n = false := by simpa using a
      exact ⟨n, hn, hg, ho, chk_wrong (by omega) hg hn ho⟩
def chkV (p : Int × Int) : Value := .tuple #[.int .i64 p.1, .int .i64 p.2]

set_option maxRecDepth 100000 in
set_option maxHeartbeats 8000000 in
theorem check_any {xs : List (Nd × Value)} {ad : Option Addr} {cap C : Nat} (hlen : xs.length ≤ 4294967296) (hf : ∀ x ∈ xs, Fit x.1) (w : World) (hNL : NL w C ad xs) (hC : C ≤ w.heap.size) (hT : Tt w) :
    Calls Tryd.prog 12 #[.slice ad xs.length cap] w fun e w' => e = .returned (chkV (chkN (nds xs))) ∧ Only [] w w' := by
  obtain ⟨N, hN⟩ : ∃ N, xs.length = N := ⟨_, rfl⟩
  have hNn : (nds xs).length = N := by simp [hN]
  have HN := hid hN
  have HR := hid (fun n (hg : Gd (nds xs) n) (hn : n < xs.length) W (o : Only [] w W) => right_any (cap := cap) hg hn hlen hf W (hNL.still o) (Nat.le_trans hC o.size) (hT.still o))
  rw [hN] at HR hlen ⊢
  clear hNL hC hT hf hN
  by_cases h8 : 8192 < N
  · have HF : Hid (chkN (nds xs) = (0, 91)) := by show _ = _; unfold chkN; rw [hNn, if_pos h8]
    have h8i : (8192 : Int) < (N : Int) := by omega
    clear h8 hNn
    go_enter Tryd.func12, Tryd.ntmps12
    go_wp2_with fail
    go_ret2
    rw [HF.out]
    exact ⟨rfl, Only.refl _ _⟩
  · have h8i : ¬ (8192 : Int) < (N : Int) := by omega
    by_cases h0 : N = 0
    · have HF : Hid (chkN (nds xs) = (0, 90)) := by show _ = _; unfold chkN; rw [hNn, if_neg h8, if_pos h0]
      have h0i : ((N : Int) == 0) = true := by simp; omega
      clear h8 hNn h0
      go_enter Tryd.func12, Tryd.ntmps12
      go_wp2_with fail
      go_ret2
      rw [HF.out]
      exact ⟨rfl, Only.refl _ _⟩
    · have h0i : ((N : Int) == 0) = false := by simp; omega
      have H8 := hid h8
      have H0 := hid h0
      have HNN := hid hNn
      clear h8 hNn h0
      go_enter Tryd.func12, Tryd.ntmps12
      go_wp2_with fail
      go_loopw [15] (fun i wr => ∃ k : Nat, i = .int .i64 k ∧ k ≤ N ∧ Hid (Gd (nds xs) k) ∧ Only [] w wr) (fun i _ => N - (RowKit.intOf i).toNat)
      case atStart => exact ⟨0, rfl, by omega, fun i hi => absurd hi (Nat.not_lt_zero _), Only.refl _ _⟩
      case round =>
        obtain ⟨k, rfl, hk, hg, ho⟩ := hrel
        have HO := hid ho
        by_cases hlt : k < N
        · have hkl : (k : Int) < (N : Int) := by omega
          have hk0 : (0 : Int) ≤ (k : Int) := by omega
          have HRK := hid (HR.out k hg.out hlt wr ho)
          have HLT := hid hlt
          clear ho hlt
          rcases hok : ok (nds xs) k with _ | _
          · rw [hok] at HRK
            have HF := hid (chk_wrong (by rw [HNN.out]; have := H8.out; omega) hg.out (by rw [HNN.out]; exact HLT.out) hok)
            clear hok
            go_wp2_with fail
            refine HRK.out.mono ?_
            rintro e w1 ⟨rfl, ho1⟩
            have HO1 := hid (HO.out.trans ho1)
            clear ho1
            go_wp2_with fail
            go_ret2
            rw [HF.out]
            exact ⟨rfl, HO1.out⟩
          · rw [hok] at HRK
            have HG := hid (hg.out.succ hok)
            clear hok
            go_wp2_with fail
            refine HRK.out.mono ?_
            rintro e w1 ⟨rfl, ho1⟩
            have HO1 := hid (HO.out.trans ho1)
            clear ho1
            go_wp2_with fail
            go_roundw
            case rel => exact ⟨k + 1, by go_num, HLT.out, HG.out, HO1.out⟩
            case measure => have := HLT.out; simp [RowKit.intOf]; omega
        · have hkl : ¬ (k : Int) < (N : Int) := by omega
          have hkn : k = N := by omega
          have HF : Hid (chkN (nds xs) = (0, 0)) := by
            show _ = _
            refine chk_right (by rw [HNN.out]; have := H8.out; omega) (by rw [HNN.out]; exact H0.out) ?_
            rw [HNN.out, ← hkn]
            exact hg.out
          clear ho hlt hkn
          go_wp2_with fail
          go_ret2
          rw [HF.out]
          exact ⟨rfl, HO.out⟩
end Go.Proofs.YtmlhibcbgdhadaaDoor
