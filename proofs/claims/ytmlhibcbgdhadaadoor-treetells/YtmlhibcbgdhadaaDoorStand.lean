/- Where a node stands. -/
import Derived.Test.YtmlhibcbgdhadaaDoorPath
import Derived.Test.YtmlhibcbgdhadaaDoorQuiet
namespace Go.Proofs.YtmlhibcbgdhadaaDoor
open Go.RowKit

/-- which kinds bear it, as a bit -/
def shv (k p : Nat) : Int := if brs k p then 1 else 0
theorem brs_bit {k q : Nat} (hk1 : 1 ≤ k) (hk5 : k ≤ 5) (hq1 : 1 ≤ q) (hq5 : q ≤ 5) : (bits .and .i64 (kIn k / 2 ^ q) 1 == 0) = !brs k q := by
  obtain rfl | rfl | rfl | rfl | rfl : k = 1 ∨ k = 2 ∨ k = 3 ∨ k = 4 ∨ k = 5 := by omega
  all_goals
    obtain rfl | rfl | rfl | rfl | rfl : q = 1 ∨ q = 2 ∨ q = 3 ∨ q = 4 ∨ q = 5 := by omega
    all_goals rfl
theorem nk_nat {ns : List Nd} {n : Nat} (h : plc ns n = true) : ∃ k : Nat, nk ns n = (k : Int) ∧ 1 ≤ k ∧ k ≤ 5 := by
  have := plc_kind h
  exact ⟨(nk ns n).toNat, by omega, by omega, by omega⟩

set_option maxRecDepth 100000 in
set_option maxHeartbeats 8000000 in
theorem stands_zero {xs : List (Nd × Value)} {ad : Option Addr} {cap C : Nat} (h0 : 0 < xs.length) (w : World) (hNL : NL w C ad xs) :
    Calls Tryd.prog 46 #[.slice ad xs.length cap, .int .i64 0] w fun e w' => e = .returned (.bool (plc (nds xs) 0)) ∧ Only [] w w' := by
  obtain ⟨x, hx⟩ := some_at (xs := xs) (i := 0) h0
  obtain ⟨b, off, rfl, hbC, hbw, hc⟩ := hNL.at_ hx
  have c0 := hc 0 _ rfl
  have c1 := hc 1 _ rfl
  simp only [Nat.zero_mul, Nat.add_zero] at c0 c1
  have hk := nk_of (nds_get hx)
  have hp := np_of (nds_get hx)
  have hP : plc (nds xs) 0 = (x.1.kind == 1 && x.1.par == -1) := by unfold plc; rw [if_pos rfl, hk, hp]
  rw [hP]
  have hl : (0 : Int) < (xs.length : Int) := by omega
  clear hc hk hp hP hNL hx
  generalize xs.length = N at *
  by_cases h1 : x.1.kind = 1
  · by_cases h2 : x.1.par = -1
    · rw [h1] at c0 ⊢
      rw [h2] at c1 ⊢
      clear h1 h2
      go_enter Tryd.func46, Tryd.ntmps46
      go_wp2_with fail
      go_ret
      exact ⟨rfl, Only.refl _ _⟩
    · have e2 : (x.1.par == -1) = false := by simpa using h2
      rw [h1] at c0 ⊢
      rw [e2]
      clear h1 h2
      go_enter Tryd.func46, Tryd.ntmps46
      go_wp2_with fail
      go_ret
      exact ⟨rfl, Only.refl _ _⟩
  · have e1 : (x.1.kind == 1) = false := by simpa using h1
    rw [e1]
    clear h1
    go_enter Tryd.func46, Tryd.ntmps46
    go_wp2_with fail
    go_ret
    exact ⟨rfl, Only.refl _ _⟩

theorem idx_ways (l : List Nat) (x : Int) : (idx l x = -1 ∧ ∀ y ∈ l, (y : Int) ≠ x) ∨ ∃ i : Nat, idx l x = (i : Int) ∧ i < l.length ∧ l[i]? = some x.toNat ∧ 0 ≤ x := by
  unfold idx
  rcases h : l.findIdx? (fun (k : Nat) => (k : Int) == x) with _ | i
  · refine .inl ⟨rfl, fun y hy => ?_⟩
    have := List.findIdx?_eq_none_iff.1 h y hy
    simpa using this
  · refine .inr ⟨i, rfl, ?_⟩
    obtain ⟨h1, h2, -⟩ := List.findIdx?_eq_some_iff_getElem.1 h
    have h3 : ((l[i] : Nat) : Int) = x := by simpa using h2
    exact ⟨h1, by rw [List.getElem?_eq_getElem h1]; congr 1; omega, by omega⟩
theorem pairwise_inj {l : List Nat} (h : l.Pairwise (· < ·)) {i j k : Nat} (hi : l[i]? = some k) (hj : l[j]? = some k) : i = j := by
  obtain ⟨h1, e1⟩ := List.getElem?_eq_some_iff.1 hi
  obtain ⟨h2, e2⟩ := List.getElem?_eq_some_iff.1 hj
  have hp := List.pairwise_iff_getElem.1 h
  rcases Nat.lt_trichotomy i j with g | g | g
  · have := hp i j h1 h2 g; omega
  · exact g
  · have := hp j i h2 h1 g; omega

set_option maxRecDepth 100000 in
set_option maxHeartbeats 8000000 in
theorem stands_pos {xs : List (Nd × Value)} {ad : Option Addr} {cap C n : Nat} (hg : Gd (nds xs) n) (hn : n < xs.length) (h0 : 0 < n) (hlen : xs.length ≤ 4294967296) (hk : isK (nk (nds xs) n) = true) (w : World) (hNL : NL w C ad xs) (hC : C ≤ w.heap.size) (hT : Tt w) :
    Calls Tryd.prog 46 #[.slice ad xs.length cap, .int .i64 n] w fun e w' => e = .returned (.bool (plc (nds xs) n)) ∧ Only [] w w' := by
  obtain ⟨x, hx⟩ := some_at (xs := xs) (i := n) hn
  obtain ⟨b, off, rfl, hbC, hbw, hc⟩ := hNL.at_ hx
  have hkx := nk_of (nds_get hx)
  have hpx := np_of (nds_get hx)
  obtain ⟨k, hkk, hk1, hk5⟩ : ∃ k : Nat, x.1.kind = (k : Int) ∧ 1 ≤ k ∧ k ≤ 5 := by
    rw [hkx] at hk
    unfold isK at hk
    have := of_decide_eq_true hk
    exact ⟨x.1.kind.toNat, by omega, by omega, by omega⟩
  have HW := hid (fun (W : World) (o : Only [] w W) => path_any (cap := cap) hg.pn (by omega) hlen (n - 1) (by omega) W (hNL.still o) (Nat.le_trans hC o.size))
  have HWL := hid (way_len hg.pn (n - 1) (by omega))
  have HNL := hid hNL
  have HC := hid hC
  have HT := hid hT
  have HN := hid hn
  have HX := hid hx
  have hn1 : ((n - 1 : Nat) : Int) = (n : Int) - 1 := by omega
  rw [hn1] at HW
  have hnl : (n : Int) < (xs.length : Int) := by omega
  have hn0 : (0 : Int) < (n : Int) := by omega
  have hne : ((n : Int) == 0) = false := by simp; omega
  have cp := hc 1 _ rfl
  have HCP := hid hc
  clear hNL hC hT hx hc hkx hk hn1
  have HPX := hid hpx
  have HG := hid hg
  have hlenN := hlen
  obtain ⟨N, hN⟩ : ∃ N, xs.length = N := ⟨_, rfl⟩
  have HLN := hid hN
  rw [hN] at HW hnl hlenN hn
  rw [hN]
  clear hN hg hlen hpx hn
  go_enter Tryd.func46, Tryd.ntmps46
  go_wp2_with fail
  refine (HW.out _ (Only.refl _ _)).mono ?_
  rintro e w1 ⟨v, rfl, hri, ho⟩
  obtain ⟨adv, cv, rfl, hsv, -⟩ := row_reads hri
  have cp1 : w1.cell? ⟨b, off + n * 13 + 1, none⟩ = some (.int .i64 x.1.par) := (World.cell?_of_block (a := ⟨b, off + n * 13 + 1, none⟩) (ho.block b hbw (by simp))).trans cp
  have HO := hid ho
  have HI := hid (index_any (c := cv) x.1.par w1 hsv (by have := HWL.out; omega))
  clear cp hri ho hsv
  rcases idx_ways (way (nds xs) (n - 1)) x.1.par with ⟨hi, hno⟩ | ⟨i, hi, hil, hiw, hp0⟩
  · rw [hi] at HI
    have HP : Hid (plc (nds xs) n = false) := by
      show _ = _
      unfold plc
      rw [if_neg (by omega), HPX.out]
      rcases Int.lt_or_le x.1.par 0 with g | g
      · rw [decide_eq_false (by omega)]; rfl
      · have : (x.1.par.toNat) ∉ way (nds xs) (n - 1) := fun hm => by have := hno _ hm; omega
        rw [decide_eq_false this, Bool.and_false]; rfl
    clear hi hno
    go_wp2_with fail
    refine HI.out.mono ?_
    rintro e w2 ⟨rfl, rfl⟩
    go_wp2_with fail
    refine wp_region_behind (by kernel_rfl) (by kernel_rfl) ?_
    repeat (go_big_quiet_step (fail))
    refine wpQuiet_nil ?_
    intro _ hw'
    obtain ⟨⟨dq, osq⟩, hw''⟩ := hw'
    subst hw''
    go_wp2_with fail
    go_ret
    exact ⟨ret_bool HP.out.symm, HO.out.trans (only_behind _ _ _)⟩
  · rw [hi] at HI
    obtain ⟨p, hpe⟩ : ∃ p : Nat, x.1.par = (p : Int) := ⟨x.1.par.toNat, by omega⟩
    rw [hpe] at HI cp1 HPX hiw
    rw [Int.toNat_natCast] at hiw
    have hpw : p ∈ way (nds xs) (n - 1) := List.mem_of_getElem? hiw
    have hple := way_le HG.out.pn (n - 1) (by omega) p hpw
    have hpn : p < n := by omega
    have hil2 : i + 1 = (way (nds xs) p).length := by
      have h1 := way_at HG.out.pn (n := n - 1) (by omega) hpw
      have h2 := pairwise_inj (way_rise HG.out.pn (n - 1) (by omega)) hiw h1
      have h3 : 0 < (way (nds xs) p).length := List.length_pos_iff.2 (way_ne p)
      omega
    obtain ⟨y, hy⟩ := some_at (xs := xs) (i := p) (by have := HLN.out; omega)
    obtain ⟨b', off', e', hbC', hbw', hc'⟩ := HNL.out.at_ hy
    cases e'
    obtain ⟨q, hq, hq1, hq5⟩ := nk_nat (ok_plc (HG.out p hpn))
    have hky := nk_of (nds_get hy)
    rw [hq] at hky
    have ck := hc' 0 _ rfl
    rw [← hky] at ck
    simp only [Nat.add_zero] at ck
    have HP : Hid (plc (nds xs) n = (brs k q && (x.1.kind == 4 || decide (i + 1 < 32)))) := by
      show _ = _
      unfold plc
      rw [if_neg (by omega), HPX.out, Int.toNat_natCast, decide_eq_true hpw, decide_eq_true (show (0 : Int) ≤ (p : Int) by omega), hq, hil2, nk_of (nds_get HX.out), hkk]
      rfl
    have HKN := hid (fun (W : World) (o : Only [] w W) => kindOf_c (x := x) hkk hk1 hk5 W (HT.out.still o))
    have HO2 := hid HO.out
    have hpl : (p : Int) < (N : Int) := by have := HLN.out; omega
    have hil3 : (i : Int) ≤ 4294967296 := by have := HWL.out; omega
    have B1 : Hid (∀ d os, ∀ c v, (ndc x)[c]? = some v → (behind w1 d os).cell? ⟨b, off + n * 13 + c, none⟩ = some v) := fun d os c v hv => (World.cell?_of_block (a := ⟨b, off + n * 13 + c, none⟩) ((HO.out.trans (only_behind w1 d os)).block b hbw (by simp))).trans (HCP.out c v hv)
    have g0 := fun d os => B1.out d os 0 _ rfl
    have g1 := fun d os => B1.out d os 1 _ rfl
    have g2 := fun d os => B1.out d os 2 _ rfl
    have g3 := fun d os => B1.out d os 3 _ rfl
    have g4 := fun d os => B1.out d os 4 _ rfl
    have g5 := fun d os => B1.out d os 5 _ rfl
    have g6 := fun d os => B1.out d os 6 _ rfl
    have g7 := fun d os => B1.out d os 7 _ rfl
    have g8 := fun d os => B1.out d os 8 _ rfl
    have g9 := fun d os => B1.out d os 9 _ rfl
    have g10 := fun d os => B1.out d os 10 _ rfl
    have g11 := fun d os => B1.out d os 11 _ rfl
    have g12 := fun d os => B1.out d os 12 _ rfl
    have gk : ∀ d os, (behind w1 d os).cell? ⟨b, off + p * 13, none⟩ = some (.int .i64 (q : Int)) := fun d os => (World.cell?_of_block (a := ⟨b, off + p * 13, none⟩) ((HO.out.trans (only_behind w1 d os)).block b hbw (by simp))).trans ck
    simp only [Nat.add_zero] at g0
    rw [hpe] at g1
    unfold ndc kindC at HKN
    rw [hkk, hpe] at HKN
    obtain ⟨kn, hkn⟩ : ∃ kn, kName (k : Int) = kn := ⟨_, rfl⟩
    obtain ⟨ki, hki⟩ : ∃ ki, kIn (k : Int) = ki := ⟨_, rfl⟩
    obtain ⟨km, hkm⟩ : ∃ km, may (k : Int) = km := ⟨_, rfl⟩
    obtain ⟨ku, hku⟩ : ∃ ku, kMust (k : Int) = ku := ⟨_, rfl⟩
    rw [hkn, hki, hkm, hku] at HKN
    have HKI := hid hki
    clear hkn hki hkm hku
    have hfd : ∀ W, (Instr.field 71 (.agg #[.string kn, .int .i64 ki, .int .i64 km, .int .i64 ku]) 1).run Tryd.prog W = .ok (.int .i64 ki) W := fun W => by kernel_rfl
    rw [hkk] at g0
    have hin : ((i : Int) + 1 == 0) = false := by simp; omega
    have HPE := hid hpe
    have hp0 : (0 : Int) ≤ (p : Int) := by omega
    have hn0' : (0 : Int) ≤ (n : Int) := by omega
    have hq0 : (0 : Int) ≤ (q : Int) := by omega
    have hq5' : (q : Int) ≤ 5 := by omega
    have hbit := brs_bit hk1 hk5 hq1 hq5
    rw [HKI.out] at hbit
    clear hi hil hiw hpw hple hpn hil2 hy hc' hky ck hq hbC' hbw' hpe
    rcases hbr : brs k q with _ | _
    · rw [hbr] at hbit
      simp only [Bool.not_false] at hbit
      have HP2 : Hid (plc (nds xs) n = false) := by show _ = _; rw [HP.out, hbr]; rfl
      clear hbr
      go_wp2_with fail
      refine HI.out.mono ?_
      rintro e w2 ⟨rfl, rfl⟩
      go_wp2_with fail
      refine wp_region_behind (by kernel_rfl) (by kernel_rfl) ?_
      repeat (go_big_quiet_step ((first | (go_at_call 50; refine Calls.behind_of ((HKN.out _ (HO.out.trans (only_behind _ _ _))).mono fun _ _ h => ⟨h.1, h.2⟩)))))
      refine wpQuiet_nil ?_
      intro _ hw'
      obtain ⟨⟨dq, osq⟩, hw''⟩ := hw'
      subst hw''
      go_wp2_with fail
      go_ret
      exact ⟨ret_bool HP2.out.symm, HO.out.trans (only_behind _ _ _)⟩
    · rw [hbr] at hbit
      simp only [Bool.not_true] at hbit
      have HP2 : Hid (plc (nds xs) n = ((k : Int) == 4 || decide (i + 1 < 32))) := by show _ = _; rw [HP.out, hbr, hkk]; rfl
      clear hbr
      by_cases h4 : k = 4
      · have e4 : ((k : Int) == 4) = true := by simp; omega
        have HP3 : Hid (plc (nds xs) n = true) := by show _ = _; rw [HP2.out, e4]; rfl
        clear h4
        go_wp2_with fail
        refine HI.out.mono ?_
        rintro e w2 ⟨rfl, rfl⟩
        go_wp2_with fail
        refine wp_region_behind (by kernel_rfl) (by kernel_rfl) ?_
        repeat (go_big_quiet_step ((first | (go_at_call 50; refine Calls.behind_of ((HKN.out _ (HO.out.trans (only_behind _ _ _))).mono fun _ _ h => ⟨h.1, h.2⟩)))))
        refine wpQuiet_nil ?_
        intro _ hw'
        obtain ⟨⟨dq, osq⟩, hw''⟩ := hw'
        subst hw''
        go_wp2_with fail
        go_ret
        exact ⟨ret_bool HP3.out.symm, HO.out.trans (only_behind _ _ _)⟩
      · have e4 : ((k : Int) == 4) = false := by simp; omega
        have HP3 : Hid (plc (nds xs) n = decide (i + 1 < 32)) := by show _ = _; rw [HP2.out, e4]; rfl
        clear h4
        rcases Nat.lt_or_ge (i + 1) 32 with h | h
        all_goals first
          | have hlt : (i : Int) + 1 < 32 := by omega
          | have hlt : ¬ (i : Int) + 1 < 32 := by omega
        · rw [decide_eq_true h] at HP3
          clear h
          go_wp2_with fail
          refine HI.out.mono ?_
          rintro e w2 ⟨rfl, rfl⟩
          go_wp2_with fail
          refine wp_region_behind (by kernel_rfl) (by kernel_rfl) ?_
          repeat (go_big_quiet_step ((first | (go_at_call 50; refine Calls.behind_of ((HKN.out _ (HO.out.trans (only_behind _ _ _))).mono fun _ _ h => ⟨h.1, h.2⟩)))))
          refine wpQuiet_nil ?_
          intro _ hw'
          obtain ⟨⟨dq, osq⟩, hw''⟩ := hw'
          subst hw''
          go_wp2_with fail
          go_ret
          exact ⟨ret_bool HP3.out.symm, HO.out.trans (only_behind _ _ _)⟩
        · rw [decide_eq_false (by omega)] at HP3
          have hdf : decide ((i : Int) + 1 < 32) = false := decide_eq_false hlt
          clear h hlt
          go_wp2_with fail
          refine HI.out.mono ?_
          rintro e w2 ⟨rfl, rfl⟩
          go_wp2_with fail
          refine wp_region_behind (by kernel_rfl) (by kernel_rfl) ?_
          repeat (go_big_quiet_step ((first | (go_at_call 50; refine Calls.behind_of ((HKN.out _ (HO.out.trans (only_behind _ _ _))).mono fun _ _ h => ⟨h.1, h.2⟩)))))
          refine wpQuiet_nil ?_
          intro _ hw'
          obtain ⟨⟨dq, osq⟩, hw''⟩ := hw'
          subst hw''
          go_wp2_with fail
          go_ret
          exact ⟨ret_bool HP3.out.symm, HO.out.trans (only_behind _ _ _)⟩
theorem stands_any {xs : List (Nd × Value)} {ad : Option Addr} {cap C n : Nat} (hg : Gd (nds xs) n) (hn : n < xs.length) (hlen : xs.length ≤ 4294967296) (hk : isK (nk (nds xs) n) = true) (w : World) (hNL : NL w C ad xs) (hC : C ≤ w.heap.size) (hT : Tt w) :
    Calls Tryd.prog 46 #[.slice ad xs.length cap, .int .i64 n] w fun e w' => e = .returned (.bool (plc (nds xs) n)) ∧ Only [] w w' := by
  rcases Nat.eq_zero_or_pos n with e | e
  · subst e; exact stands_zero hn w hNL
  · exact stands_pos hg hn e hlen hk w hNL hC hT
end Go.Proofs.YtmlhibcbgdhadaaDoor
