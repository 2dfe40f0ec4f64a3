/- The reference's Kids and Path. -/
import Derived.Test.YtmlhibcbgdhadaaDoorRefF
import Derived.Test.YtmlhibcbgdhadaaDoorWays
import Derived.Test.YtmlhibcbgdhadaaDoorInts
namespace Go.Proofs.YtmlhibcbgdhadaaDoor
open Go.RowKit

theorem one_ivs (l : List Nat) : ∀ u ∈ ivs l, u.oneCell' = true := by
  intro u hu
  obtain ⟨k, -, rfl⟩ := List.mem_map.1 hu
  rfl
theorem ri_lit (w : World) (B : Nat) (hB : B ≤ w.heap.size) : RI (w.alloc (.cells #[] 3)) B (.slice (some ⟨w.heap.size, 0, none⟩) 0 0) [] := by
  have := World.ownsRow_lit (base := B) (e := 3) (size := 1) w #[] 0 hB (by unfold maxLen; omega) rfl
  show World.ownsRow _ B 3 1 _ 0 []
  simpa using this
theorem ri_mono {w : World} {B C : Nat} {v : Value} {l : List Nat} (h : RI w B v l) (hC : C ≤ B) : RI w C v l :=
  ⟨h.1, h.2.imp id fun ⟨g, cap, cur, a1, a2, a3⟩ => ⟨g, cap, cur, a1, Nat.le_trans hC a2, a3⟩⟩
theorem ri_one (w : World) (B : Nat) (hB : B ≤ w.heap.size) (k : Nat) : (w.alloc (.cells #[iv k] 3)).ownsRow B 3 1 (.slice (some ⟨w.heap.size, 0, none⟩) 1 1) 1 [iv k] := by
  have := World.ownsRow_lit (base := B) (e := 3) (size := 1) w #[iv k] 1 hB (by unfold maxLen; omega) rfl
  simpa using this
set_option maxRecDepth 100000 in
set_option maxHeartbeats 4000000 in
theorem refWay_c {xs : List (Nd × Value)} {ad : Option Addr} {cap C n : Nat} (hp : PN (nds xs) (n + 1)) (hn : n < xs.length) (hlen : xs.length ≤ 4294967296) (w : World) (hNL : NL w C ad xs) :
    Calls Tryd.prog 44 #[.slice ad xs.length cap, .int .i64 n] w fun e w' => (∃ v, e = .returned v ∧ RI w' w.heap.size v (way (nds xs) n)) ∧ Only [] w w' := by
  have HNL := hid hNL
  have HP := hid hp
  obtain ⟨N, hN⟩ : ∃ N, xs.length = N := ⟨_, rfl⟩
  have HN := hid hN
  have hn2 : (n : Int) ≤ 4294967296 := by omega
  rw [hN] at hn hlen ⊢
  obtain ⟨i3, hi3, z30, z31, z32⟩ := info_parts info3
  clear hNL hp hN
  go_enter Tryd.func44, Tryd.ntmps44
  go_wp2_with fail
  go_loopw [5, 6] (fun v0 v wr => ∃ (t : List Nat) (rv : Value) (q : Int), v0 = rv ∧ v = .int .i64 q ∧ -1 ≤ q ∧ q ≤ n ∧ Hid (RI wr w.heap.size rv t ∧ t.length ≤ n + 1 ∧ ((q = -1 ∧ way (nds xs) n = t) ∨ (0 ≤ q ∧ way (nds xs) n = way (nds xs) q.toNat ++ t))) ∧ Hid (Only [] w wr)) (fun _ v _ => (RowKit.intOf v + 1).toNat)
  case atStart => exact ⟨[], _, n, rfl, rfl, by omega, by omega, ⟨ri_lit w _ (Nat.le_refl _), by simp, .inr ⟨by omega, by simp⟩⟩, (Only.refl _ _).alloc _⟩
  case round =>
    obtain ⟨t, rv, q, rfl, rfl, hq1, hq2, hst, ho⟩ := hrel
    by_cases hq : 0 ≤ q
    · obtain ⟨k, rfl⟩ : ∃ k : Nat, q = (k : Int) := ⟨q.toNat, by omega⟩
      have hkn : k ≤ n := by omega
      have hw : way (nds xs) n = way (nds xs) k ++ t := by
        rcases hst.out.2.2 with ⟨h, -⟩ | ⟨-, h⟩
        · omega
        · rw [Int.toNat_natCast] at h; exact h
      obtain ⟨x, hx⟩ := some_at (xs := xs) (i := k) (by rw [HN.out]; omega)
      obtain ⟨b, off, rfl, -, hbw, hc⟩ := HNL.out.at_ hx
      have HC1 := hid (hc 1 _ rfl)
      have HBW := hid hbw
      have hpk := HP.out k (by omega)
      have hnp : np (nds xs) k = x.1.par := np_of (nds_get hx)
      have hpar : x.1.par < k ∧ -1 ≤ x.1.par := by
        rw [← hnp]
        rcases Nat.eq_zero_or_pos k with e | e
        · have := hpk.1 e; omega
        · have := hpk.2 e; omega
      have hlen2 := way_len HP.out n (by omega)
      have HNEW : Hid ((k :: t).length ≤ n + 1 ∧ ((x.1.par = -1 ∧ way (nds xs) n = k :: t) ∨ (0 ≤ x.1.par ∧ way (nds xs) n = way (nds xs) x.1.par.toNat ++ (k :: t)))) := by
        have key : ((x.1.par = -1 ∧ way (nds xs) n = k :: t) ∨ (0 ≤ x.1.par ∧ way (nds xs) n = way (nds xs) x.1.par.toNat ++ (k :: t))) := by
          rcases Nat.eq_zero_or_pos k with e | e
          · subst e
            rw [way_zero HP.out (by omega)] at hw
            exact .inl ⟨by rw [← hnp]; exact hpk.1 rfl, by rw [hw]; rfl⟩
          · have h1 := hpk.2 e
            rw [way_pos HP.out (by omega) e, hnp] at hw
            exact .inr ⟨by omega, by rw [hw]; simp⟩
        refine ⟨?_, key⟩
        rcases key with ⟨-, h⟩ | ⟨-, h⟩
        · rw [← h]; exact hlen2
        · rw [h, List.length_append] at hlen2; omega
      have hkl : (k : Int) < (N : Int) := by omega
      have hk0 : (0 : Int) ≤ (k : Int) := by omega
      have hpar1 := hpar.1
      have hpar2 := hpar.2
      have HRI := hid hst.out.1
      have htl : t.length ≤ 4294967297 := by have := hst.out.2.1; omega
      obtain ⟨m, hm⟩ : ∃ m, t.length = m := ⟨_, rfl⟩
      rw [hm] at htl
      have HM := hid hm
      obtain ⟨ad2, cp2, hve, hsl, -⟩ := row_reads hst.out.1
      rw [hm] at hve hsl
      subst hve
      have HSL := hid hsl
      have hml : 1 + m ≤ maxLen := by unfold maxLen; omega
      have hmb : (1 + m) * 8 ≤ 140737488355328 := by omega
      have HSZ : Hid (w.heap.size ≤ wr.heap.size) := ho.out.size
      clear hx hc hbw hpk hnp hpar hw hst hlen2 hm hsl
      go_wp2_with (at_builtin; refine wpList_append_sl _ rfl _ _ 36 rfl w.heap.size 3 i3 _ 1 8 Tryd.underlying36 hi3 z30 z31 z32 rfl (by decide) (.slice (some ⟨wr.heap.size, 0, none⟩) 1 1) 1 [iv k] (by rfl) ?qc1 ad2 m cp2 (ivs t) (by rfl) ?qc2 ?qc3 ?qc5 hml hmb ?qc4 ?_)
      case qc1 => exact ri_one wr _ HSZ.out k
      case qc2 => rw [ivs_len, HM.out]; omega
      case qc3 => exact HSL.out.only ((Only.refl [] wr).alloc _)
      case qc5 => exact one_ivs t
      case qc4 => have := HSZ.out; simp; omega
      intro v2 w6 hown hgrew
      have HR2 : Hid (RI w6 w.heap.size v2 (k :: t)) := by
        show w6.ownsRow _ _ _ _ _ _
        rw [List.length_cons, HM.out, Nat.add_comm]; exact hown
      have HO2 : Hid (Only [] w w6) := only_grow (ho.out.alloc (.cells #[iv k] 3)) hgrew.grown (fun b hb => by have hb2 : wr.heap.size = b := Option.some.inj hb; exact .inr (by have := HSZ.out; omega))
      have d1 := cell_keep HO2.out HBW.out HC1.out
      clear hown hgrew
      go_wp2_with fail
      go_roundw
      case rel => exact ⟨k :: t, v2, x.1.par, rfl, rfl, hpar2, by omega, ⟨HR2.out, HNEW.out.1, HNEW.out.2⟩, HO2.out⟩
      case measure => simp [RowKit.intOf]; omega
    · have e : q = -1 := by omega
      subst e
      have hri := hst.out.1
      have hway : t = way (nds xs) n := by
        rcases hst.out.2.2 with ⟨-, h⟩ | ⟨h, -⟩
        · exact h.symm
        · omega
      rw [hway] at hri
      have HF := hid hri
      clear hri hway
      have HO := ho
      clear hst ho
      go_wp2_with fail
      go_ret
      exact ⟨⟨_, rfl, HF.out⟩, HO.out⟩
/-- the ways in which a number is asked -/
theorem asked_ways (ns : List Nd) (n : Int) (N : Nat) (hN : ns.length = N) : ((chkN ns).2 ≠ 0 ∧ hasN ns n = false) ∨ ((chkN ns).2 = 0 ∧ n < 0 ∧ hasN ns n = false) ∨ ((chkN ns).2 = 0 ∧ 0 ≤ n ∧ (N : Int) ≤ n ∧ hasN ns n = false) ∨ ((chkN ns).2 = 0 ∧ hasN ns n = true ∧ ∃ k : Nat, n = (k : Int) ∧ k < N) := by
  unfold hasN
  rw [hN]
  by_cases h0 : (chkN ns).2 = 0
  · rw [h0]
    by_cases h1 : 0 ≤ n
    · by_cases h2 : n < N
      · exact .inr (.inr (.inr ⟨rfl, by simp [h1, h2], n.toNat, by omega, by omega⟩))
      · exact .inr (.inr (.inl ⟨rfl, h1, by omega, by simp [h2]⟩))
    · exact .inr (.inl ⟨rfl, by omega, by simp [h1]⟩)
  · exact .inl ⟨h0, by simp [h0]⟩
set_option maxRecDepth 100000 in
set_option maxHeartbeats 8000000 in
theorem refPath_c {xs : List (Nd × Value)} {ad : Option Addr} {cap C : Nat} (n : Int) (hlen : xs.length ≤ 4294967296) (hf : ∀ x ∈ xs, Fit x.1) (w : World) (hNL : NL w C ad xs) :
    Calls Tryd.prog 24 #[.slice ad xs.length cap, .int .i64 n] w fun e w' => (∃ v, e = .returned v ∧ RI w' w.heap.size v (pathOf (nds xs) n)) ∧ Only [] w w' := by
  have HC := hid (refCheck_c (cap := cap) hlen hf w hNL)
  have HNL := hid hNL
  have hNn : (nds xs).length = xs.length := by simp
  have HA := hid (asked_ways (nds xs) n xs.length hNn)
  have HDOC : Hid ((chkN (nds xs)).2 = 0 → ∀ k, k < xs.length → PN (nds xs) (k + 1)) := fun h k hk => (chk_doc.1 h).2.2.pn.mono (by rw [hNn]; omega)
  have HP : Hid (pathOf (nds xs) n = if hasN (nds xs) n then way (nds xs) n.toNat else []) := rfl
  have HLEN := hid hlen
  unfold chkV at HC
  obtain ⟨e, he⟩ : ∃ e, (chkN (nds xs)).2 = e := ⟨_, rfl⟩
  obtain ⟨q, hq⟩ : ∃ q, (chkN (nds xs)).1 = q := ⟨_, rfl⟩
  rw [he] at HC HA HDOC
  rw [hq] at HC
  obtain ⟨N, hN⟩ : ∃ N, xs.length = N := ⟨_, rfl⟩
  have HN := hid hN
  rw [hN] at HC HA HDOC ⊢
  clear hNL he hq hNn hN hf hlen
  have nil_ri : ∀ W, Only [] w W → RI (W.alloc (.cells #[] 3)) w.heap.size (.slice (some ⟨W.heap.size, 0, none⟩) 0 0) [] := fun W o => ri_lit W _ o.size
  have HNIL := hid nil_ri
  clear nil_ri
  rcases HA.out with ⟨h0, hh⟩ | ⟨h0, h1, hh⟩ | ⟨h0, h1, h2, hh⟩ | ⟨h0, hh, k, hk, hkN⟩
  · have e1 : (e != 0) = true := by simpa using h0
    have HE : Hid (pathOf (nds xs) n = []) := by show _ = _; rw [HP.out, hh]; rfl
    clear h0 hh
    go_enter Tryd.func24, Tryd.ntmps24
    go_wp2_with fail
    refine HC.out.mono ?_
    rintro e w1 ⟨rfl, o⟩
    have HO := hid o
    clear o
    go_wp2_with fail
    go_ret
    exact ⟨⟨_, rfl, by rw [HE.out]; exact HNIL.out _ HO.out⟩, HO.out.alloc _⟩
  · subst h0
    have d1 : decide (n < 0) = true := decide_eq_true h1
    have HE : Hid (pathOf (nds xs) n = []) := by show _ = _; rw [HP.out, hh]; rfl
    clear hh
    go_enter Tryd.func24, Tryd.ntmps24
    go_wp2_with fail
    refine HC.out.mono ?_
    rintro e w1 ⟨rfl, o⟩
    have HO := hid o
    clear o
    go_wp2_with fail
    go_ret
    exact ⟨⟨_, rfl, by rw [HE.out]; exact HNIL.out _ HO.out⟩, HO.out.alloc _⟩
  · subst h0
    have h1' : ¬ n < 0 := by omega
    have d1 : decide (n < 0) = false := decide_eq_false h1'
    have d2 : decide ((N : Int) ≤ n) = true := decide_eq_true h2
    have HE : Hid (pathOf (nds xs) n = []) := by show _ = _; rw [HP.out, hh]; rfl
    clear hh
    go_enter Tryd.func24, Tryd.ntmps24
    go_wp2_with fail
    refine HC.out.mono ?_
    rintro e w1 ⟨rfl, o⟩
    have HO := hid o
    clear o
    go_wp2_with fail
    go_ret
    exact ⟨⟨_, rfl, by rw [HE.out]; exact HNIL.out _ HO.out⟩, HO.out.alloc _⟩
  · subst h0
    subst hk
    have h1' : ¬ (k : Int) < 0 := by omega
    have d1 : decide ((k : Int) < 0) = false := decide_eq_false h1'
    have h2' : ¬ (N : Int) ≤ (k : Int) := by omega
    have d2 : decide ((N : Int) ≤ (k : Int)) = false := decide_eq_false h2'
    have d3 : decide (N ≤ k) = false := decide_eq_false (by omega)
    have HE : Hid (pathOf (nds xs) (k : Int) = way (nds xs) k) := by show _ = _; rw [HP.out, hh]; simp
    have HW := hid (fun W (o : Only [] w W) => refWay_c (cap := cap) (n := k) (HDOC.out rfl k hkN) (by rw [HN.out]; exact hkN) HLEN.out W (HNL.out.still o))
    rw [HN.out] at HW
    clear hh
    go_enter Tryd.func24, Tryd.ntmps24
    go_wp2_with fail
    refine HC.out.mono ?_
    rintro e w1 ⟨rfl, o⟩
    have HO := hid o
    clear o
    go_wp2_with fail
    refine (HW.out _ HO.out).mono ?_
    rintro e w2 ⟨⟨v, rfl, hri⟩, o⟩
    have HRI := hid hri
    have HO2 := hid o
    clear hri o
    go_wp2_with fail
    go_ret
    exact ⟨⟨v, rfl, by rw [HE.out]; exact ri_mono HRI.out HO.out.size⟩, HO.out.trans HO2.out⟩
set_option maxRecDepth 100000 in
set_option maxHeartbeats 8000000 in
theorem refKids_c {xs : List (Nd × Value)} {ad : Option Addr} {cap C : Nat} (n : Int) (hlen : xs.length ≤ 4294967296) (hf : ∀ x ∈ xs, Fit x.1) (w : World) (hNL : NL w C ad xs) :
    Calls Tryd.prog 23 #[.slice ad xs.length cap, .int .i64 n] w fun e w' => (∃ v, e = .returned v ∧ RI w' w.heap.size v (kidsOf (nds xs) n)) ∧ Only [] w w' := by
  have HC := hid (fun W (o : Only [] w W) => refCheck_c (cap := cap) hlen hf W (hNL.still o))
  have HNL := hid hNL
  have hNn : (nds xs).length = xs.length := by simp
  have HA := hid (asked_ways (nds xs) n xs.length hNn)
  have HP : Hid (kidsOf (nds xs) n = if hasN (nds xs) n then (List.range xs.length).filter (fun k => np (nds xs) k == n) else []) := by show _ = _; unfold kidsOf kidsL; rw [hNn]
  unfold chkV at HC
  obtain ⟨e, he⟩ : ∃ e, (chkN (nds xs)).2 = e := ⟨_, rfl⟩
  obtain ⟨q, hq⟩ : ∃ q, (chkN (nds xs)).1 = q := ⟨_, rfl⟩
  rw [he] at HC HA
  rw [hq] at HC
  obtain ⟨N, hN⟩ : ∃ N, xs.length = N := ⟨_, rfl⟩
  have HN := hid hN
  rw [hN] at HC HA HP ⊢
  rw [hN] at hlen
  clear hNL he hq hNn hN hf
  obtain ⟨i3, hi3, z30, z31, z32⟩ := info_parts info3
  have HNIL := hid (ri_lit w w.heap.size (Nat.le_refl _))
  rcases HA.out with ⟨h0, hh⟩ | ⟨h0, h1, hh⟩ | ⟨h0, h1, h2, hh⟩ | ⟨h0, hh, k0, hk0, hkN⟩
  · have e1 : (e != 0) = true := by simpa using h0
    have HE : Hid (kidsOf (nds xs) n = []) := by show _ = _; rw [HP.out, hh]; rfl
    clear h0 hh
    go_enter Tryd.func23, Tryd.ntmps23
    go_wp2_with fail
    refine (HC.out _ ((Only.refl _ _).alloc _)).mono ?_
    rintro e w1 ⟨rfl, o⟩
    have HO := hid o
    clear o
    go_wp2_with fail
    go_ret
    exact ⟨⟨_, rfl, by rw [HE.out]; exact row_only HNIL.out HO.out (by simp)⟩, ((Only.refl _ _).alloc _).trans HO.out⟩
  · subst h0
    have d1 : decide (n < 0) = true := decide_eq_true h1
    have HE : Hid (kidsOf (nds xs) n = []) := by show _ = _; rw [HP.out, hh]; rfl
    clear hh
    go_enter Tryd.func23, Tryd.ntmps23
    go_wp2_with fail
    refine (HC.out _ ((Only.refl _ _).alloc _)).mono ?_
    rintro e w1 ⟨rfl, o⟩
    have HO := hid o
    clear o
    go_wp2_with fail
    go_ret
    exact ⟨⟨_, rfl, by rw [HE.out]; exact row_only HNIL.out HO.out (by simp)⟩, ((Only.refl _ _).alloc _).trans HO.out⟩
  · subst h0
    have h1' : ¬ n < 0 := by omega
    have d1 : decide (n < 0) = false := decide_eq_false h1'
    have d2 : decide ((N : Int) ≤ n) = true := decide_eq_true h2
    have HE : Hid (kidsOf (nds xs) n = []) := by show _ = _; rw [HP.out, hh]; rfl
    clear hh
    go_enter Tryd.func23, Tryd.ntmps23
    go_wp2_with fail
    refine (HC.out _ ((Only.refl _ _).alloc _)).mono ?_
    rintro e w1 ⟨rfl, o⟩
    have HO := hid o
    clear o
    go_wp2_with fail
    go_ret
    exact ⟨⟨_, rfl, by rw [HE.out]; exact row_only HNIL.out HO.out (by simp)⟩, ((Only.refl _ _).alloc _).trans HO.out⟩
  · subst h0
    have h1' : ¬ n < 0 := by omega
    have d1 : decide (n < 0) = false := decide_eq_false h1'
    have h2' : ¬ (N : Int) ≤ n := by omega
    have d2 : decide ((N : Int) ≤ n) = false := decide_eq_false h2'
    have HE : Hid (kidsOf (nds xs) n = (List.range N).filter (fun k => np (nds xs) k == n)) := by show _ = _; rw [HP.out, hh]; rfl
    clear hh hk0 hkN
    go_enter Tryd.func23, Tryd.ntmps23
    go_wp2_with fail
    refine (HC.out _ ((Only.refl _ _).alloc _)).mono ?_
    rintro e w1 ⟨rfl, o⟩
    have HO1 : Hid (Only [] w w1) := ((Only.refl _ _).alloc _).trans o
    have HR1 : Hid (RI w1 w.heap.size (.slice (some ⟨w.heap.size, 0, none⟩) 0 0) []) := row_only HNIL.out o (by simp)
    clear o
    go_wp2_with fail
    go_loopw [5, 8] (fun v i wr => ∃ (k : Nat) (rv : Value), v = rv ∧ i = .int .i64 k ∧ k ≤ N ∧ Hid (RI wr w.heap.size rv ((List.range k).filter fun k => np (nds xs) k == n)) ∧ Hid (Only [] w wr)) (fun _ i _ => N - (RowKit.intOf i).toNat)
    case atStart => exact ⟨0, _, rfl, rfl, by omega, HR1.out, HO1.out⟩
    case round =>
      obtain ⟨k, rv, rfl, rfl, hk, HRI, HO2⟩ := hrel
      by_cases hlt : k < N
      · obtain ⟨x, hx⟩ := some_at (xs := xs) (i := k) (by rw [HN.out]; exact hlt)
        obtain ⟨b, off, rfl, hbC, hbw, hc⟩ := (HNL.out.still HO2.out).at_ hx
        have c1 := hc 1 _ rfl
        have hpx := np_of (nds_get hx)
        have hkl : (k : Int) < (N : Int) := by omega
        have hk0 : (0 : Int) ≤ (k : Int) := by omega
        have hbn : ¬ b = wr.heap.size := by omega
        have HLT := hid hlt
        have hk8 : (k : Int) ≤ 4294967296 := by omega
        obtain ⟨q, hq⟩ : ∃ q, ((List.range k).filter fun k => np (nds xs) k == n).length = q := ⟨_, rfl⟩
        have hqk : q ≤ k := by rw [← hq]; refine Nat.le_trans (List.length_filter_le _ _) (by simp)
        have hql : q + 1 ≤ maxLen := by unfold maxLen; omega
        have hqb : (q + 1) * 8 ≤ 140737488355328 := by omega
        obtain ⟨ad2, cp2, hve, -, -⟩ := row_reads HRI.out
        rw [hq] at hve
        subst hve
        have HQ := hid hq
        clear hx hc hlt hq hqk
        by_cases hpm : x.1.par = n
        · have hT : (x.1.par == n) = true := by simp [hpm]
          have HK := hid (kids_take (nds xs) n k)
          rw [hpx, hT] at HK
          clear hpm hpx
          go_wp2_with (at_builtin; refine wpList_append_sl _ rfl _ _ 36 rfl w.heap.size 3 i3 _ 1 8 Tryd.underlying36 hi3 z30 z31 z32 rfl (by decide) (.slice ad2 q cp2) q (ivs ((List.range k).filter fun k => np (nds xs) k == n)) (by rfl) ?qc1 (some ⟨wr.heap.size, 0, none⟩) 1 1 [iv k] (by rfl) rfl ?qc2 ?qc3 hql hqb ?qc4 ?_)
          case qc1 => have h1 := HRI.out; unfold RI at h1; rw [HQ.out] at h1; exact row_only h1 ((Only.refl [] wr).alloc _) (by simp)
          case qc2 => exact sl_newest wr [iv k] 3 rfl
          case qc3 => first | rfl | (intro u hu; simp at hu; subst hu; rfl)
          case qc4 => have := HO2.out.size; simp; omega
          intro v2 w6 hown hgrew
          have HOW := hid hown
          have HG := hid (only_grow (L := []) (HO2.out.alloc (.cells #[.int .i64 (k : Int)] 3)) hgrew.grown (fun b hb => .inr (row_ge HRI.out b hb).1))
          clear hown hgrew
          go_wp2
          go_roundw
          case rel =>
            refine ⟨k + 1, v2, rfl, by go_num, HLT.out, ?_, HG.out⟩
            rw [HK.out]
            simp only [if_true]
            show RI _ _ _ _
            unfold RI
            rw [ivs_app, List.length_append, HQ.out]
            exact HOW.out
          case measure => have := HLT.out; simp [RowKit.intOf]; omega
        · have hT : (x.1.par == n) = false := by simpa using hpm
          have HK := hid (kids_take (nds xs) n k)
          rw [hpx, hT] at HK
          clear hpm hpx
          go_wp2_with fail
          go_roundw
          case rel =>
            refine ⟨k + 1, _, rfl, by go_num, HLT.out, ?_, HO2.out⟩
            rw [HK.out]
            simp only [Bool.false_eq_true, if_false, List.append_nil]
            exact HRI.out
          case measure => have := HLT.out; simp [RowKit.intOf]; omega
      · have hkl : ¬ (k : Int) < (N : Int) := by omega
        have hkn : k = N := by omega
        subst hkn
        go_wp2_with fail
        go_ret
        exact ⟨⟨_, rfl, by rw [HE.out]; exact HRI.out⟩, HO2.out⟩
end Go.Proofs.YtmlhibcbgdhadaaDoor
