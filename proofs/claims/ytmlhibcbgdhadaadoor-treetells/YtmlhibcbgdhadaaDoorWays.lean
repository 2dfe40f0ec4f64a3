/- Kids and Path: the program's. -/
import Derived.Test.YtmlhibcbgdhadaaDoorChk
namespace Go.Proofs.YtmlhibcbgdhadaaDoor
open Go.RowKit

/-- a document that has a node of that number -/
def hasN (ns : List Nd) (n : Int) : Bool := (chkN ns).2 == 0 && (decide (0 ≤ n) && decide (n < ns.length))
def kidsL (ns : List Nd) (n : Int) : List Nat := (List.range ns.length).filter fun k => np ns k == n
def kidsOf (ns : List Nd) (n : Int) : List Nat := if hasN ns n then kidsL ns n else []
def pathOf (ns : List Nd) (n : Int) : List Nat := if hasN ns n then way ns n.toNat else []

set_option maxRecDepth 100000 in
set_option maxHeartbeats 4000000 in
theorem has_c {xs : List (Nd × Value)} {ad : Option Addr} {cap C : Nat} (n : Int) (hlen : xs.length ≤ 4294967296) (hf : ∀ x ∈ xs, Fit x.1) (w : World) (hNL : NL w C ad xs) (hC : C ≤ w.heap.size) (hT : Tt w) :
    Calls Tryd.prog 42 #[.slice ad xs.length cap, .int .i64 n] w fun e w' => e = .returned (.bool (hasN (nds xs) n)) ∧ Only [] w w' := by
  have HC := hid (check_any (cap := cap) hlen hf w hNL hC hT)
  obtain ⟨N, hN⟩ : ∃ N, xs.length = N := ⟨_, rfl⟩
  have hNn : (nds xs).length = N := by simp [hN]
  rw [hN] at HC ⊢
  unfold chkV at HC
  obtain ⟨e, he⟩ : ∃ e, (chkN (nds xs)).2 = e := ⟨_, rfl⟩
  obtain ⟨q, hq⟩ : ∃ q, (chkN (nds xs)).1 = q := ⟨_, rfl⟩
  rw [he, hq] at HC
  have hH : hasN (nds xs) n = (e == 0 && (decide (0 ≤ n) && decide (n < (N : Int)))) := by unfold hasN; rw [he, hNn]
  have HH := hid hH
  clear hN hNn hq hH hNL hC hT hf hlen
  by_cases h0 : e = 0
  · have e0 : (e == 0) = true := by simp [h0]
    have HE := hid he
    clear h0 he
    by_cases h1 : 0 ≤ n
    · by_cases h2 : n < (N : Int)
      · have HF : Hid (hasN (nds xs) n = true) := by show _ = _; rw [HH.out, e0, decide_eq_true h1, decide_eq_true h2]; rfl
        go_enter Tryd.func42, Tryd.ntmps42
        go_wp2_with fail
        refine HC.out.mono ?_
        rintro e w1 ⟨rfl, ho⟩
        have HO := hid ho
        clear ho
        go_wp2_with fail
        go_ret
        exact ⟨ret_bool HF.out.symm, HO.out⟩
      · have HF : Hid (hasN (nds xs) n = false) := by show _ = _; rw [HH.out, e0, decide_eq_true h1, decide_eq_false h2]; rfl
        have hd : decide (n < (N : Int)) = false := decide_eq_false h2
        clear h2
        go_enter Tryd.func42, Tryd.ntmps42
        go_wp2_with fail
        refine HC.out.mono ?_
        rintro e w1 ⟨rfl, ho⟩
        have HO := hid ho
        clear ho
        go_wp2_with fail
        go_ret
        exact ⟨ret_bool HF.out.symm, HO.out⟩
    · have HF : Hid (hasN (nds xs) n = false) := by show _ = _; rw [HH.out, e0, decide_eq_false h1]; rfl
      have hd : decide (0 ≤ n) = false := decide_eq_false h1
      clear h1
      go_enter Tryd.func42, Tryd.ntmps42
      go_wp2_with fail
      refine HC.out.mono ?_
      rintro e w1 ⟨rfl, ho⟩
      have HO := hid ho
      clear ho
      go_wp2_with fail
      go_ret
      exact ⟨ret_bool HF.out.symm, HO.out⟩
  · have e0 : (e == 0) = false := by simpa using h0
    have HF : Hid (hasN (nds xs) n = false) := by show _ = _; rw [HH.out, e0]; rfl
    clear h0 he
    go_enter Tryd.func42, Tryd.ntmps42
    go_wp2_with fail
    refine HC.out.mono ?_
    rintro e w1 ⟨rfl, ho⟩
    have HO := hid ho
    clear ho
    go_wp2_with fail
    go_ret
    exact ⟨ret_bool HF.out.symm, HO.out⟩

theorem hasN_doc {ns : List Nd} {n : Int} (h : hasN ns n = true) : Doc ns ∧ 0 ≤ n ∧ n < ns.length := by
  unfold hasN at h
  simp only [Bool.and_eq_true, beq_iff_eq, decide_eq_true_eq] at h
  exact ⟨chk_doc.1 h.1, h.2.1, h.2.2⟩
set_option maxRecDepth 100000 in
set_option maxHeartbeats 4000000 in
theorem paths_c {xs : List (Nd × Value)} {ad : Option Addr} {cap C : Nat} (n : Int) (hlen : xs.length ≤ 4294967296) (hf : ∀ x ∈ xs, Fit x.1) (w : World) (hNL : NL w C ad xs) (hC : C ≤ w.heap.size) (hT : Tt w) :
    Calls Tryd.prog 21 #[.slice ad xs.length cap, .int .i64 n] w fun e w' => ∃ v, e = .returned v ∧ RI w' w.heap.size v (pathOf (nds xs) n) ∧ Only [] w w' := by
  have HH := hid (has_c (cap := cap) n hlen hf w hNL hC hT)
  rcases hh : hasN (nds xs) n with _ | _
  · have HF : Hid (pathOf (nds xs) n = []) := by show _ = _; unfold pathOf; rw [hh]; rfl
    rw [hh] at HH
    clear hh hlen hf hNL hC hT
    generalize xs.length = N at *
    go_enter Tryd.func21, Tryd.ntmps21
    go_wp2_with fail
    refine HH.out.mono ?_
    rintro e w1 ⟨rfl, ho⟩
    have HO := hid ho
    clear ho
    go_wp2_with fail
    go_ret
    exact ⟨_, rfl, by rw [HF.out]; exact World.ownsRow_nil _ _ _ _, HO.out⟩
  · obtain ⟨hd, h0, h1⟩ := hasN_doc hh
    obtain ⟨m, rfl⟩ : ∃ m : Nat, n = (m : Int) := ⟨n.toNat, by omega⟩
    have hNn : (nds xs).length = xs.length := by simp
    rw [hNn] at h1
    have HF : Hid (pathOf (nds xs) (m : Int) = way (nds xs) m) := by show _ = _; unfold pathOf; rw [hh]; rfl
    have HP := hid (fun W (o : Only [] w W) => path_any (cap := cap) (m := xs.length) (hNn ▸ hd.2.2.pn) (Nat.le_refl _) hlen m (by omega) W (hNL.still o) (Nat.le_trans hC o.size))
    rw [hh] at HH
    clear hh hlen hf hNL hC hT hd hNn
    generalize xs.length = N at *
    go_enter Tryd.func21, Tryd.ntmps21
    go_wp2_with fail
    refine HH.out.mono ?_
    rintro e w1 ⟨rfl, ho⟩
    have HO := hid ho
    clear ho
    go_wp2_with fail
    refine (HP.out _ HO.out).mono ?_
    rintro e w2 ⟨v, rfl, hri, ho2⟩
    have HR := hid hri
    have HO2 := hid ho2
    clear hri ho2
    go_wp2_with fail
    go_ret
    refine ⟨v, rfl, ?_, HO.out.trans HO2.out⟩
    rw [HF.out]
    exact ⟨HR.out.1, HR.out.2.imp id fun ⟨g, cap, cur, a1, a2, a3⟩ => ⟨g, cap, cur, a1, Nat.le_trans HO.out.size a2, a3⟩⟩

theorem kids_take (ns : List Nd) (n : Int) (k : Nat) : ((List.range (k + 1)).filter fun k => np ns k == n) = ((List.range k).filter fun k => np ns k == n) ++ (if np ns k == n then [k] else []) := by
  rw [List.range_succ, List.filter_append]
  congr 1
  by_cases h : np ns k == n
  · simp [h]
  · simp [h]
theorem kids_none {ns : List Nd} {m k : Nat} (h : PN ns m) (hk : k ≤ m) (n : Nat) (hkn : k ≤ n + 1) : ((List.range k).filter fun k => np ns k == (n : Int)) = [] := by
  rw [List.filter_eq_nil_iff]
  intro j hj
  have hj := List.mem_range.1 hj
  have := h j (by omega)
  rcases Nat.eq_zero_or_pos j with e | e
  · rw [this.1 e]; simp
  · have := this.2 e; simp; omega
set_option maxRecDepth 100000 in
set_option maxHeartbeats 4000000 in
theorem kids_c {xs : List (Nd × Value)} {ad : Option Addr} {cap C : Nat} (n : Int) (hlen : xs.length ≤ 4294967296) (hf : ∀ x ∈ xs, Fit x.1) (w : World) (hNL : NL w C ad xs) (hC : C ≤ w.heap.size) (hT : Tt w) :
    Calls Tryd.prog 20 #[.slice ad xs.length cap, .int .i64 n] w fun e w' => ∃ v, e = .returned v ∧ RI w' w.heap.size v (kidsOf (nds xs) n) ∧ Only [] w w' := by
  have HH := hid (has_c (cap := cap) n hlen hf w hNL hC hT)
  rcases hh : hasN (nds xs) n with _ | _
  · have HF : Hid (kidsOf (nds xs) n = []) := by show _ = _; unfold kidsOf; rw [hh]; rfl
    rw [hh] at HH
    clear hh hlen hf hNL hC hT
    generalize xs.length = N at *
    go_enter Tryd.func20, Tryd.ntmps20
    go_wp2_with fail
    refine HH.out.mono ?_
    rintro e w1 ⟨rfl, ho⟩
    have HO := hid ho
    clear ho
    go_wp2_with fail
    go_ret
    exact ⟨_, rfl, by rw [HF.out]; exact World.ownsRow_nil _ _ _ _, HO.out⟩
  · obtain ⟨hd, h0, h1⟩ := hasN_doc hh
    obtain ⟨m, rfl⟩ : ∃ m : Nat, n = (m : Int) := ⟨n.toNat, by omega⟩
    have hNn : (nds xs).length = xs.length := by simp
    rw [hNn] at h1
    obtain ⟨N, hN⟩ : ∃ N, xs.length = N := ⟨_, rfl⟩
    have HF : Hid (kidsOf (nds xs) (m : Int) = (List.range N).filter fun k => np (nds xs) k == (m : Int)) := by show _ = _; unfold kidsOf kidsL; rw [hh, hNn, hN]; rfl
    have HPN : Hid (PN (nds xs) N) := by rw [← hN]; exact hNn ▸ hd.2.2.pn
    have hN8 : N ≤ 8192 := by rw [← hN]; rw [← hNn]; exact hd.1
    rw [hh] at HH
    obtain ⟨i3, hi3, z30, z31, z32⟩ := info_parts info3
    have HN := hid hN
    rw [hN] at HH h1 ⊢
    have HNL := hid hNL
    have HC := hid hC
    have hm63 : (m : Int) + 1 ≤ 8192 := by omega
    clear hh hlen hf hNL hC hT hd hNn hN
    go_enter Tryd.func20, Tryd.ntmps20
    go_wp2_with fail
    refine HH.out.mono ?_
    rintro e w1 ⟨rfl, ho⟩
    have HO := hid ho
    clear ho
    go_wp2_with fail
    go_loopw [5, 6] (fun v i wr => ∃ (k : Nat) (rv : Value), v = rv ∧ i = .int .i64 k ∧ m + 1 ≤ k ∧ k ≤ N ∧ RI wr w.heap.size rv ((List.range k).filter fun k => np (nds xs) k == (m : Int)) ∧ Only [] w wr) (fun _ i _ => N - (RowKit.intOf i).toNat)
    case atStart => exact ⟨m + 1, _, rfl, by go_num, Nat.le_refl _, by omega, by rw [kids_none HPN.out (by omega) m (Nat.le_refl _)]; exact World.ownsRow_nil _ _ _ _, HO.out⟩
    case round =>
      obtain ⟨k, rv, rfl, rfl, hmk, hk, hri, ho⟩ := hrel
      have HRI := hid hri
      have HO2 := hid ho
      by_cases hlt : k < N
      · obtain ⟨x, hx⟩ := some_at (xs := xs) (i := k) (by rw [HN.out]; exact hlt)
        obtain ⟨b, off, rfl, hbC, hbw, hc⟩ := (HNL.out.still ho).at_ hx
        have c1 := hc 1 _ rfl
        have hpx := np_of (nds_get hx)
        have hkl : (k : Int) < (N : Int) := by omega
        have hk0 : (0 : Int) ≤ (k : Int) := by omega
        have hbn : ¬ b = wr.heap.size := by omega
        have HLT := hid hlt
        have HMK := hid hmk
        have hk8 : (k : Int) ≤ 8192 := by omega
        obtain ⟨q, hq⟩ : ∃ q, ((List.range k).filter fun k => np (nds xs) k == (m : Int)).length = q := ⟨_, rfl⟩
        have hqk : q ≤ k := by rw [← hq]; refine Nat.le_trans (List.length_filter_le _ _) (by simp)
        have hql : q + 1 ≤ maxLen := by unfold maxLen; omega
        have hqb : (q + 1) * 8 ≤ 140737488355328 := by omega
        obtain ⟨ad2, cp2, hve, -, -⟩ := row_reads hri
        rw [hq] at hve
        subst hve
        have HQ := hid hq
        clear hx hc hri ho hlt hmk hq hqk
        by_cases hpm : x.1.par = (m : Int)
        · have hT : (x.1.par == (m : Int)) = true := by simp [hpm]
          have HK := hid (kids_take (nds xs) (m : Int) k)
          rw [hpx, hT] at HK
          clear hpm hpx
          go_wp2_with (at_builtin; refine wpList_append_sl _ rfl _ _ 36 rfl w.heap.size 3 i3 _ 1 8 Tryd.underlying36 hi3 z30 z31 z32 rfl (by decide) (.slice ad2 q cp2) q (ivs ((List.range k).filter fun k => np (nds xs) k == (m : Int))) (by rfl) ?qc1 (some ⟨wr.heap.size, 0, none⟩) 1 1 [iv k] (by rfl) rfl ?qc2 ?qc3 hql hqb ?qc4 ?_)
          case qc1 => have h1 := HRI.out; unfold RI at h1; rw [HQ.out] at h1; exact row_only h1 ((Only.refl [] wr).alloc _) (by simp)
          case qc2 => exact sl_newest wr [iv k] 3 rfl
          case qc3 => first | rfl | (intro u hu; simp at hu; subst hu; rfl)
          case qc4 => have := HO2.out.size; simp; omega
          intro v2 w6 hown hgrew
          have HOW := hid hown
          have HG := hid (only_grow (L := []) (HO2.out.alloc (.cells #[.int .i64 (k : Int)] 3)) hgrew.grown (fun b hb => .inr (row_ge HRI.out b hb).1))
          clear hown hgrew
          go_wp2
          go_roundw
          case rel =>
            refine ⟨k + 1, v2, rfl, by go_num, by have := HMK.out; omega, HLT.out, ?_, HG.out⟩
            rw [HK.out]
            simp only [if_true]
            unfold RI
            rw [ivs_app, List.length_append, HQ.out]
            exact HOW.out
          case measure => have := HLT.out; simp [RowKit.intOf]; omega
        · have hT : (x.1.par == (m : Int)) = false := by simpa using hpm
          have HK := hid (kids_take (nds xs) (m : Int) k)
          rw [hpx, hT] at HK
          clear hpm hpx
          go_wp2_with fail
          go_roundw
          case rel =>
            refine ⟨k + 1, _, rfl, by go_num, by have := HMK.out; omega, HLT.out, ?_, HO2.out⟩
            rw [HK.out]
            simp only [Bool.false_eq_true, if_false, List.append_nil]
            exact HRI.out
          case measure => have := HLT.out; simp [RowKit.intOf]; omega
      · have hkl : ¬ (k : Int) < (N : Int) := by omega
        have hkn : k = N := by omega
        subst hkn
        clear hri ho
        go_wp2_with fail
        go_ret
        exact ⟨_, rfl, by rw [HF.out]; exact HRI.out, HO2.out⟩
end Go.Proofs.YtmlhibcbgdhadaaDoor
