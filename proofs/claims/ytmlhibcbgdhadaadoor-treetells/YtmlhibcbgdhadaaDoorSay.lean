/- What a node says. -/
import Derived.Test.YtmlhibcbgdhadaaDoorStand
namespace Go.Proofs.YtmlhibcbgdhadaaDoor
open Go.RowKit

theorem cell_keep {W W' : World} (o : Only [] W W') {b : Nat} (hb : b < W.heap.size) {i : Nat} {v : Value} (h : W.cell? ⟨b, i, none⟩ = some v) : W'.cell? ⟨b, i, none⟩ = some v :=
  (World.cell?_of_block (a := ⟨b, i, none⟩) (o.block b hb (by simp))).trans h

set_option maxRecDepth 100000 in
set_option maxHeartbeats 8000000 in
theorem says_any {xs : List (Nd × Value)} {ad : Option Addr} {cap C n : Nat} (hn : n < xs.length) (h4 : nk (nds xs) n = 4 → 0 < n) (hlen : xs.length ≤ 4294967296) (hf : ∀ x ∈ xs, Fit x.1) (w : World) (hNL : NL w C ad xs) (hT : Tt w) :
    Calls Tryd.prog 48 #[.slice ad xs.length cap, .int .i64 n] w fun e w' => e = .returned (.bool (say (nds xs) n)) ∧ Only [] w w' := by
  obtain ⟨x, hx⟩ := some_at (xs := xs) (i := n) hn
  obtain ⟨b, off, rfl, hbC, hbw, hc⟩ := hNL.at_ hx
  obtain ⟨ca, cc, hcv, hcs⟩ := hNL.cv x (List.mem_of_getElem? hx)
  have hkx := nk_of (nds_get hx)
  have hpx := np_of (nds_get hx)
  have hdx := nd_of (nds_get hx)
  have hfx := (hf x (List.mem_of_getElem? hx)).chs
  have c0 := hc 0 _ rfl
  have c1 := hc 1 _ rfl
  have c12 := hc 12 _ rfl
  rw [hcv] at c12
  simp only [Nat.add_zero] at c0
  have hnl : (n : Int) < (xs.length : Int) := by omega
  have hn0 : (0 : Int) ≤ (n : Int) := by omega
  have hS : say (nds xs) n = if x.1.kind = 4 then !x.1.chs.isEmpty && !(nk (nds xs) (n - 1) == 4 && np (nds xs) (n - 1) == x.1.par) && (textM x.1.chs).isSome else x.1.chs.isEmpty := by
    unfold say; rw [hkx, hpx, hdx]
  obtain ⟨m, hm⟩ : ∃ m, x.1.chs.length = m := ⟨_, rfl⟩
  have HM := hid hm
  rw [hm] at c12
  by_cases hk : x.1.kind = 4
  · rw [if_pos hk] at hS
    rw [hkx] at h4
    have hpos := h4 hk
    obtain ⟨y, hy⟩ := some_at (xs := xs) (i := n - 1) (by omega)
    obtain ⟨yn, yv⟩ := y
    obtain ⟨cay, ccy, hcy, -⟩ := hNL.cv _ (List.mem_of_getElem? hy)
    dsimp only at hcy
    subst hcy
    obtain ⟨b', off', e', -, -, hc'⟩ := hNL.at_ hy
    cases e'
    have hky := nk_of (nds_get hy)
    have hpy := np_of (nds_get hy)
    rw [hky, hpy] at hS
    have HS := hid hS
    rw [hk] at c0
    have hn1 : (1 : Int) ≤ (n : Int) := by omega
    have hcast : ((n - 1 : Nat) : Int) = (n : Int) - 1 := by omega
    have hnt : ((n : Int) - 1).toNat = n - 1 := by omega
    have g := fun c v (h : (ndc (yn, .slice cay yn.chs.length ccy))[c]? = some v) => hc' c v h
    obtain ⟨my, hmy⟩ : ∃ my, yn.chs.length = my := ⟨_, rfl⟩
    rw [hmy] at g
    have y0 := g 0 _ rfl
    have y1 := g 1 _ rfl
    have y2 := g 2 _ rfl
    have y3 := g 3 _ rfl
    have y4 := g 4 _ rfl
    have y5 := g 5 _ rfl
    have y6 := g 6 _ rfl
    have y7 := g 7 _ rfl
    have y8 := g 8 _ rfl
    have y9 := g 9 _ rfl
    have y10 := g 10 _ rfl
    have y11 := g 11 _ rfl
    have y12 := g 12 _ rfl
    simp only [Nat.add_zero] at y0
    have HT := hid (fun W (o : Only [] w W) => text_c (cap := cc) ((hcs.keep o (by simp)).sl) (hT.still o).tc (by omega))
    rw [hm] at HT
    have HC1 := hid c1
    have HC12 := hid c12
    have HBW := hid hbw
    have hnl1 : (n : Int) - 1 < (xs.length : Int) := by omega
    have hn10 : (0 : Int) ≤ (n : Int) - 1 := by omega
    clear hmy hc hcv hcs hkx hpx hdx hfx hS h4 hc' hky hpy g hNL hT hf hy hk hcast hx
    generalize xs.length = N at *
    go_enter Tryd.func48, Tryd.ntmps48
    go_wp2_with fail
    obtain ⟨W1, hW1⟩ : ∃ W1, w.alloc (.cells (ndc (yn, .slice cay my ccy)).toArray 42) = W1 := ⟨_, rfl⟩
    have HO1 : Hid (Only [] w W1) := by show Only [] _ _; rw [← hW1]; exact (Only.refl [] w).alloc _
    have hb1 : Blk W1 w.heap.size (ndc (yn, .slice cay my ccy)) 42 := by rw [← hW1]; exact Blk.new w (ndc (yn, .slice cay my ccy)).toArray 42 rfl
    unfold ndc at hW1
    rw [hW1]
    have HB := hid hb1
    have q0 : ∀ d os, (behind W1 d os).cell? ⟨w.heap.size, 0, none⟩ = some (.int .i64 yn.kind) := fun d os => cell_keep (only_behind W1 d os) HB.out.lt (hb1.cell 0)
    have q1 : ∀ d os, (behind W1 d os).cell? ⟨w.heap.size, 1, none⟩ = some (.int .i64 yn.par) := fun d os => cell_keep (only_behind W1 d os) HB.out.lt (hb1.cell 1)
    have p1 : ∀ d os, (behind W1 d os).cell? ⟨b, off + n * 13 + 1, none⟩ = some (.int .i64 x.1.par) := fun d os => cell_keep (HO1.out.trans (only_behind W1 d os)) HBW.out HC1.out
    have p12 : ∀ d os, (behind W1 d os).cell? ⟨b, off + n * 13 + 12, none⟩ = some (.slice ca m cc) := fun d os => cell_keep (HO1.out.trans (only_behind W1 d os)) HBW.out HC12.out
    clear hb1 hW1 y0 y1 y2 y3 y4 y5 y6 y7 y8 y9 y10 y11 y12 c0 c1 c12
    have hw : (m = 0 ∧ ((m : Int) == 0) = true) ∨ (m ≠ 0 ∧ ((m : Int) == 0) = false) := by
      rcases Nat.eq_zero_or_pos m with e | e
      · exact .inl ⟨e, by simp; omega⟩
      · exact .inr ⟨by omega, by simp; omega⟩
    rcases hw with ⟨hm0, hmt⟩ | ⟨hm0, hmf⟩
    · have HF : Hid (say (nds xs) n = false) := by
        show _ = _
        rw [HS.out]
        have : x.1.chs = [] := List.eq_nil_of_length_eq_zero (by rw [HM.out]; exact hm0)
        rw [this]; rfl
      clear hm0
      refine wp_region_behind (by kernel_rfl) (by kernel_rfl) ?_
      repeat (go_big_quiet_step (fail))
      refine wpQuiet_nil ?_
      intro _ hw'
      obtain ⟨⟨dq, osq⟩, hw''⟩ := hw'
      subst hw''
      go_wp2_with fail
      go_ret
      exact ⟨ret_bool HF.out.symm, HO1.out.trans (only_behind _ _ _)⟩
    · have hne : x.1.chs.isEmpty = false := by
        rcases hq : x.1.chs with _ | ⟨a, t⟩
        · have := HM.out; rw [hq] at this; exact absurd this.symm hm0
        · rfl
      have HNE := hid hne
      clear hm0 hne
      by_cases hb : yn.kind = 4 ∧ yn.par = x.1.par
      · have b1 : (yn.kind == 4) = true := by simp [hb.1]
        have b2 : (yn.par == x.1.par) = true := by simp [hb.2]
        have HF : Hid (say (nds xs) n = false) := by
          show _ = _
          rw [HS.out, b1, b2]; simp
        clear hb
        refine wp_region_behind (by kernel_rfl) (by kernel_rfl) ?_
        repeat (go_big_quiet_step (fail))
        refine wpQuiet_nil ?_
        intro _ hw'
        obtain ⟨⟨dq, osq⟩, hw''⟩ := hw'
        subst hw''
        go_wp2_with fail
        go_ret
        exact ⟨ret_bool HF.out.symm, HO1.out.trans (only_behind _ _ _)⟩
      · have HF : Hid (say (nds xs) n = (textM x.1.chs).isSome) := by
          show _ = _
          rw [HS.out, HNE.out]
          have : (yn.kind == 4 && yn.par == x.1.par) = false := by
            rw [Bool.eq_false_iff]; intro h; simp at h; exact hb h
          rw [this]; rfl
        have hways : ((yn.kind == 4) = false) ∨ ((yn.kind == 4) = true ∧ (yn.par == x.1.par) = false) := by
          by_cases h : yn.kind = 4
          · refine .inr ⟨by simp [h], by simp; exact fun q => hb ⟨h, q⟩⟩
          · exact .inl (by simpa using h)
        clear hb
        rcases hways with b1 | ⟨b1, b2⟩
        all_goals
          refine wp_region_behind (by kernel_rfl) (by kernel_rfl) ?_
          repeat (go_big_quiet_step (fail))
          refine wpQuiet_nil ?_
          intro _ hw'
          obtain ⟨⟨dq, osq⟩, hw''⟩ := hw'
          subst hw''
          rcases htm : textM x.1.chs with _ | bs
          · rw [htm] at HT HF
            have HTT := hid HT.out
            unfold textV at HTT
            dsimp only at HTT
            go_wp2_with fail
            refine (HTT.out _ (HO1.out.trans (only_behind _ _ _))).mono ?_
            rintro e w2 ⟨rfl, ho2⟩
            have HO2 := hid ho2
            clear ho2
            go_wp2_with fail
            go_ret
            exact ⟨ret_bool HF.out.symm, (HO1.out.trans (only_behind _ _ _)).trans HO2.out⟩
          · rw [htm] at HT HF
            have HTT := hid HT.out
            unfold textV at HTT
            dsimp only at HTT
            go_wp2_with fail
            refine (HTT.out _ (HO1.out.trans (only_behind _ _ _))).mono ?_
            rintro e w2 ⟨rfl, ho2⟩
            have HO2 := hid ho2
            clear ho2
            go_wp2_with fail
            go_ret
            exact ⟨ret_bool HF.out.symm, (HO1.out.trans (only_behind _ _ _)).trans HO2.out⟩
  · rw [if_neg hk] at hS
    have hkf : (x.1.kind == 4) = false := by simpa using hk
    have hkn : (x.1.kind != 4) = true := by simpa using hk
    have HS := hid hS
    clear hc hcv hcs hkx hpx hdx hfx hS h4 hNL hT hf hk hx c1
    generalize xs.length = N at *
    rcases Nat.eq_zero_or_pos m with e | e
    · have hm0 : ((m : Int) == 0) = true := by simp; omega
      have HF : Hid (say (nds xs) n = true) := by
        show _ = _
        have : x.1.chs = [] := List.eq_nil_of_length_eq_zero (by rw [HM.out]; exact e)
        rw [HS.out, this]; rfl
      clear e hm
      go_enter Tryd.func48, Tryd.ntmps48
      go_wp2_with fail
      go_ret
      exact ⟨ret_bool HF.out.symm, Only.refl _ _⟩
    · have hm0 : ((m : Int) == 0) = false := by simp; omega
      have HF : Hid (say (nds xs) n = false) := by
        show _ = _
        rw [HS.out]
        rcases hq : x.1.chs with _ | ⟨a, t⟩
        · have := HM.out; rw [hq] at this; simp at this; omega
        · rfl
      clear e hm
      go_enter Tryd.func48, Tryd.ntmps48
      go_wp2_with fail
      go_ret
      exact ⟨ret_bool HF.out.symm, Only.refl _ _⟩
end Go.Proofs.YtmlhibcbgdhadaaDoor
