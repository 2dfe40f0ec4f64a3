/- The reference's Check. -/
import Derived.Test.YtmlhibcbgdhadaaDoorRefE
import Derived.Test.YtmlhibcbgdhadaaDoorRefABAll
namespace Go.Proofs.YtmlhibcbgdhadaaDoor
open Go.RowKit

theorem plcR_pn {ns : List Nd} {n : Nat} (hg : Gd ns n) (h : plcR ns n = true) : PN ns (n + 1) := fun k hk => by
  rcases Nat.lt_or_ge k n with g | g
  · exact hg.pn k g
  · have : k = n := by omega
    subst this
    unfold plcR at h
    rcases Nat.eq_zero_or_pos k with e | e
    · subst e
      simp at h
      exact ⟨fun _ => h.2, fun q => absurd q (Nat.lt_irrefl _)⟩
    · rw [if_neg (by omega)] at h
      simp at h
      exact ⟨fun q => by omega, fun _ => h.1.1⟩
theorem deepN_le {ns : List Nd} {n : Nat} (h : PN ns (n + 1)) : deepN ns n ≤ n + 1 := by
  unfold deepN
  exact Nat.le_trans (List.length_filter_le _ _) (way_len h n (by omega))
set_option maxRecDepth 100000 in
set_option maxHeartbeats 16000000 in
theorem refCheck_c {xs : List (Nd × Value)} {ad : Option Addr} {cap C : Nat} (hlen : xs.length ≤ 4294967296) (hf : ∀ x ∈ xs, Fit x.1) (w : World) (hNL : NL w C ad xs) :
    Calls Tryd.prog 14 #[.slice ad xs.length cap] w fun e w' => e = .returned (chkV (chkN (nds xs))) ∧ Only [] w w' := by
  obtain ⟨N, hN⟩ : ∃ N, xs.length = N := ⟨_, rfl⟩
  have hNn : (nds xs).length = N := by simp [hN]
  have HN := hid hN
  have HNL := hid hNL
  have HPL := hid (fun n (hg : Gd (nds xs) n) (hn : n < xs.length) W (o : Only [] w W) => placed_c (cap := cap) hg hn hlen W (hNL.still o))
  have HDP := hid (fun n (hp : PN (nds xs) (n + 1)) (hn : n < xs.length) W (o : Only [] w W) => deep_c (cap := cap) hp hn hlen W (hNL.still o))
  have HWR := hid (fun n (hg : Gd (nds xs) n) (hp : plc (nds xs) n = true) (hn : n < xs.length) W (o : Only [] w W) => written_c' (cap := cap) hg hp hn hlen hf W (hNL.still o))
  have HAT := hid (fun (x : Nd × Value) (hx : x ∈ xs) W => refAttrs_c x (hf x hx) W)
  rw [hN] at HPL HDP HWR hlen ⊢
  clear hNL hf hN
  by_cases h8 : 8192 < N
  · have HF : Hid (chkN (nds xs) = (0, 91)) := by show _ = _; unfold chkN; rw [hNn, if_pos h8]
    have h8i : (8192 : Int) < (N : Int) := by omega
    clear h8 hNn
    go_enter Tryd.func14, Tryd.ntmps14
    go_wp2_with fail
    go_ret2
    rw [HF.out]
    exact ⟨rfl, Only.refl _ _⟩
  · have h8i : ¬ (8192 : Int) < (N : Int) := by omega
    by_cases h0 : N = 0
    · have HF : Hid (chkN (nds xs) = (0, 90)) := by show _ = _; unfold chkN; rw [hNn, if_neg h8, if_pos h0]
      have h0i : ((N : Int) == 0) = true := by simp; omega
      clear h8 hNn h0
      go_enter Tryd.func14, Tryd.ntmps14
      go_wp2_with fail
      go_ret2
      rw [HF.out]
      exact ⟨rfl, Only.refl _ _⟩
    · have h0i : ((N : Int) == 0) = false := by simp; omega
      have H8 := hid h8
      have H0 := hid h0
      have HNN := hid hNn
      clear h8 hNn h0
      go_enter Tryd.func14, Tryd.ntmps14
      go_wp2_with fail
      go_loopw [4] (fun i wr => ∃ k : Nat, i = .int .i64 k ∧ k ≤ N ∧ Hid (Gd (nds xs) k) ∧ Only [] w wr) (fun i _ => N - (RowKit.intOf i).toNat)
      case atStart => exact ⟨0, rfl, by omega, fun i hi => absurd hi (Nat.not_lt_zero _), Only.refl _ _⟩
      case round =>
        obtain ⟨k, rfl, hk, hg, ho⟩ := hrel
        have HO := hid ho
        by_cases hlt : k < N
        · have hkl : (k : Int) < (N : Int) := by omega
          have hk0 : (0 : Int) ≤ (k : Int) := by omega
          have hk8 : k ≤ 8192 := by have := H8.out; omega
          have HRP := hid (HPL.out k hg.out hlt wr ho)
          have HLT := hid hlt
          have HBAD : Hid (ok (nds xs) k = false → chkN (nds xs) = ((k : Int), 90)) := fun h => chk_wrong (by rw [HNN.out]; have := H8.out; omega) hg.out (by rw [HNN.out]; exact HLT.out) h
          have HGOOD : Hid (ok (nds xs) k = true → Gd (nds xs) (k + 1)) := fun h => hg.out.succ h
          have HPD := hid (plcR_deep hg.out)
          have HGG := hg
          clear ho hlt hg
          rcases hpl : plcR (nds xs) k with _ | _
          · rw [hpl] at HRP
            have HF : Hid (chkN (nds xs) = ((k : Int), 90)) := HBAD.out (by
              have := HPD.out; rw [hpl] at this
              unfold ok; rw [← this]; rfl)
            clear hpl
            go_wp2_with fail
            refine HRP.out.mono ?_
            rintro e w1 ⟨rfl, o⟩
            have HO1 := hid (HO.out.trans o)
            clear o
            go_wp2_with fail
            go_ret2
            rw [HF.out]
            exact ⟨rfl, HO1.out⟩
          · rw [hpl] at HRP
            have hpn := plcR_pn HGG.out hpl
            have HRD := hid (fun W (o : Only [] w W) => HDP.out k hpn HLT.out W o)
            have hdl := deepN_le hpn
            have hpd := HPD.out
            rw [hpl, Bool.true_and] at hpd
            obtain ⟨dp, hdp⟩ : ∃ dp, deepN (nds xs) k = dp := ⟨_, rfl⟩
            rw [hdp] at HRD hdl hpd
            have hdi : (dp : Int) ≤ 8193 := by omega
            clear hpl hpn hdp HPD
            by_cases h32 : 32 < dp
            · have g32 : (32 : Int) < (dp : Int) := by omega
              have HF : Hid (chkN (nds xs) = ((k : Int), 90)) := HBAD.out (by
                rw [decide_eq_false (by omega)] at hpd
                unfold ok; rw [← hpd]; rfl)
              clear h32 hpd
              go_wp2_with fail
              refine HRP.out.mono ?_
              rintro e w1 ⟨rfl, o⟩
              have HO1 := hid (HO.out.trans o)
              clear o
              go_wp2_with fail
              refine (HRD.out _ HO1.out).mono ?_
              rintro e w2 ⟨rfl, rfl⟩
              go_wp2_with fail
              go_ret2
              rw [HF.out]
              exact ⟨rfl, HO1.out⟩
            · have g32 : ¬ (32 : Int) < (dp : Int) := by omega
              have g32' : decide ((32 : Int) < (dp : Int)) = false := decide_eq_false g32
              have hplc : plc (nds xs) k = true := by rw [← hpd, decide_eq_true (by omega)]
              have HRW := hid (fun W (o : Only [] w W) => HWR.out k HGG.out hplc (by have := HLT.out; omega) W o)
              obtain ⟨x, hx⟩ := some_at (xs := xs) (i := k) (by rw [HN.out]; exact HLT.out)
              have HRA := hid (fun W => HAT.out x (List.mem_of_getElem? hx) W)
              have hdx := nd_of (nds_get hx)
              have HOK : Hid (ok (nds xs) k = (atr x.1 && say (nds xs) k)) := by show _ = _; unfold ok; rw [hplc, hdx]; rfl
              obtain ⟨xn, xv⟩ := x
              obtain ⟨ca, cc, hcv, -⟩ := HNL.out.cv _ (List.mem_of_getElem? hx)
              dsimp only at hcv
              subst hcv
              obtain ⟨b, off, rfl, -, hbw, hc⟩ := HNL.out.at_ hx
              obtain ⟨m, hm⟩ : ∃ m, xn.chs.length = m := ⟨_, rfl⟩
              rw [hm] at hc HRA
              have HBW := hid hbw
              have HC := hid hc
              unfold ndc at HRA
              dsimp only at HRA HOK
              obtain ⟨sy, hsy⟩ : ∃ sy, say (nds xs) k = sy := ⟨_, rfl⟩
              obtain ⟨at', hat⟩ : ∃ at', atr xn = at' := ⟨_, rfl⟩
              rw [hsy] at HRW HOK
              rw [hat] at HRA HOK
              clear h32 hpd hplc hx hdx hc hm hsy hat hbw
              cases at'
              · have HF : Hid (chkN (nds xs) = ((k : Int), 90)) := HBAD.out HOK.out
                go_wp2_with fail
                refine HRP.out.mono ?_
                rintro e w1 ⟨rfl, o⟩
                have HO1 := hid (HO.out.trans o)
                clear o
                go_wp2_with fail
                refine (HRD.out _ HO1.out).mono ?_
                rintro e w2 ⟨rfl, rfl⟩
                have c0 := cell_keep HO1.out HBW.out (HC.out 0 _ rfl)
                have c1 := cell_keep HO1.out HBW.out (HC.out 1 _ rfl)
                have c2 := cell_keep HO1.out HBW.out (HC.out 2 _ rfl)
                have c3 := cell_keep HO1.out HBW.out (HC.out 3 _ rfl)
                have c4 := cell_keep HO1.out HBW.out (HC.out 4 _ rfl)
                have c5 := cell_keep HO1.out HBW.out (HC.out 5 _ rfl)
                have c6 := cell_keep HO1.out HBW.out (HC.out 6 _ rfl)
                have c7 := cell_keep HO1.out HBW.out (HC.out 7 _ rfl)
                have c8 := cell_keep HO1.out HBW.out (HC.out 8 _ rfl)
                have c9 := cell_keep HO1.out HBW.out (HC.out 9 _ rfl)
                have c10 := cell_keep HO1.out HBW.out (HC.out 10 _ rfl)
                have c11 := cell_keep HO1.out HBW.out (HC.out 11 _ rfl)
                have c12 := cell_keep HO1.out HBW.out (HC.out 12 _ rfl)
                simp only [Nat.add_zero] at c0
                dsimp only at c0 c1 c2 c3 c4 c5 c6 c7 c8 c9 c10 c11
                go_wp2_with fail
                refine (HRA.out _).mono ?_
                rintro e w3 ⟨rfl, o⟩
                have HO3 := hid (HO1.out.trans o)
                clear o c0 c1 c2 c3 c4 c5 c6 c7 c8 c9 c10 c11 c12
                go_wp2_with fail
                go_ret2
                rw [HF.out]
                exact ⟨rfl, HO3.out⟩
              · cases sy
                · have HF : Hid (chkN (nds xs) = ((k : Int), 90)) := HBAD.out HOK.out
                  go_wp2_with fail
                  refine HRP.out.mono ?_
                  rintro e w1 ⟨rfl, o⟩
                  have HO1 := hid (HO.out.trans o)
                  clear o
                  go_wp2_with fail
                  refine (HRD.out _ HO1.out).mono ?_
                  rintro e w2 ⟨rfl, rfl⟩
                  have c0 := cell_keep HO1.out HBW.out (HC.out 0 _ rfl)
                  have c1 := cell_keep HO1.out HBW.out (HC.out 1 _ rfl)
                  have c2 := cell_keep HO1.out HBW.out (HC.out 2 _ rfl)
                  have c3 := cell_keep HO1.out HBW.out (HC.out 3 _ rfl)
                  have c4 := cell_keep HO1.out HBW.out (HC.out 4 _ rfl)
                  have c5 := cell_keep HO1.out HBW.out (HC.out 5 _ rfl)
                  have c6 := cell_keep HO1.out HBW.out (HC.out 6 _ rfl)
                  have c7 := cell_keep HO1.out HBW.out (HC.out 7 _ rfl)
                  have c8 := cell_keep HO1.out HBW.out (HC.out 8 _ rfl)
                  have c9 := cell_keep HO1.out HBW.out (HC.out 9 _ rfl)
                  have c10 := cell_keep HO1.out HBW.out (HC.out 10 _ rfl)
                  have c11 := cell_keep HO1.out HBW.out (HC.out 11 _ rfl)
                  have c12 := cell_keep HO1.out HBW.out (HC.out 12 _ rfl)
                  simp only [Nat.add_zero] at c0
                  dsimp only at c0 c1 c2 c3 c4 c5 c6 c7 c8 c9 c10 c11
                  go_wp2_with fail
                  refine (HRA.out _).mono ?_
                  rintro e w3 ⟨rfl, o⟩
                  have HO3 := hid (HO1.out.trans o)
                  clear o c0 c1 c2 c3 c4 c5 c6 c7 c8 c9 c10 c11 c12
                  go_wp2_with fail
                  refine (HRW.out _ HO3.out).mono ?_
                  rintro e w4 ⟨rfl, o⟩
                  have HO4 := hid (HO3.out.trans o)
                  clear o
                  go_wp2_with fail
                  go_ret2
                  rw [HF.out]
                  exact ⟨rfl, HO4.out⟩
                · have HG2 := hid (HGOOD.out HOK.out)
                  go_wp2_with fail
                  refine HRP.out.mono ?_
                  rintro e w1 ⟨rfl, o⟩
                  have HO1 := hid (HO.out.trans o)
                  clear o
                  go_wp2_with fail
                  refine (HRD.out _ HO1.out).mono ?_
                  rintro e w2 ⟨rfl, rfl⟩
                  have c0 := cell_keep HO1.out HBW.out (HC.out 0 _ rfl)
                  have c1 := cell_keep HO1.out HBW.out (HC.out 1 _ rfl)
                  have c2 := cell_keep HO1.out HBW.out (HC.out 2 _ rfl)
                  have c3 := cell_keep HO1.out HBW.out (HC.out 3 _ rfl)
                  have c4 := cell_keep HO1.out HBW.out (HC.out 4 _ rfl)
                  have c5 := cell_keep HO1.out HBW.out (HC.out 5 _ rfl)
                  have c6 := cell_keep HO1.out HBW.out (HC.out 6 _ rfl)
                  have c7 := cell_keep HO1.out HBW.out (HC.out 7 _ rfl)
                  have c8 := cell_keep HO1.out HBW.out (HC.out 8 _ rfl)
                  have c9 := cell_keep HO1.out HBW.out (HC.out 9 _ rfl)
                  have c10 := cell_keep HO1.out HBW.out (HC.out 10 _ rfl)
                  have c11 := cell_keep HO1.out HBW.out (HC.out 11 _ rfl)
                  have c12 := cell_keep HO1.out HBW.out (HC.out 12 _ rfl)
                  simp only [Nat.add_zero] at c0
                  dsimp only at c0 c1 c2 c3 c4 c5 c6 c7 c8 c9 c10 c11
                  go_wp2_with fail
                  refine (HRA.out _).mono ?_
                  rintro e w3 ⟨rfl, o⟩
                  have HO3 := hid (HO1.out.trans o)
                  clear o c0 c1 c2 c3 c4 c5 c6 c7 c8 c9 c10 c11 c12
                  go_wp2_with fail
                  refine (HRW.out _ HO3.out).mono ?_
                  rintro e w4 ⟨rfl, o⟩
                  have HO4 := hid (HO3.out.trans o)
                  clear o
                  go_wp2_with fail
                  go_roundw
                  case rel => exact ⟨k + 1, by go_num, HLT.out, HG2.out, HO4.out⟩
                  case measure => have := HLT.out; simp [RowKit.intOf]; omega
        · have hkl : ¬ (k : Int) < (N : Int) := by omega
          have hkn : k = N := by omega
          have HF : Hid (chkN (nds xs) = (0, 0)) := by
            show _ = _
            refine chk_right (by rw [HNN.out]; have := H8.out; omega) (by rw [HNN.out]; exact H0.out) ?_
            rw [HNN.out, ← hkn]
            exact hg.out
          clear ho hlt hkn
          go_wp2_with fail
          go_ret2
          rw [HF.out]
          exact ⟨rfl, HO.out⟩
end Go.Proofs.YtmlhibcbgdhadaaDoor
