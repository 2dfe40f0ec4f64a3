/- A document without its last node is one; each node is a kid of the one ahead of it: the walk. -/
import Derived.Test.YtmlhibcbgdhadaaDoorBound
import Derived.Test.YtmlhibcbgdhadaaDoorLessM
import Derived.Test.YtmlhibcbgdhadaaDoorNum
namespace Go.Proofs.YtmlhibcbgdhadaaDoor
open Go.RowKit

theorem hasN_of {ns : List Nd} (h : Doc ns) {k : Nat} (hk : k < ns.length) : hasN ns (k : Int) = true := by
  unfold hasN
  have h0 := chk_doc.2 h
  rw [h0, decide_eq_true (by omega), decide_eq_true (by omega)]; rfl
theorem path_d {xs : List (Nd × Value)} {ad : Option Addr} {cap C : Nat} (hd : Doc (nds xs)) (hlen : xs.length ≤ 4294967296) (hf : ∀ x ∈ xs, Fit x.1) (W : World) (hNL : NL W C ad xs) (hC : C ≤ W.heap.size) (hT : Tt W) (k : Nat) (hk : k < xs.length) :
    Calls Tryd.prog 21 #[.slice ad xs.length cap, .int .i64 k] W fun e w' => (∃ pb po pc, e = .returned (.slice (some ⟨pb, po, none⟩) (way (nds xs) k).length pc) ∧ At w' pb po (ivs (way (nds xs) k))) ∧ Only [] W w' := by
  have := paths_c (cap := cap) k hlen hf W hNL hC hT
  have e : pathOf (nds xs) (k : Int) = way (nds xs) k := by unfold pathOf; rw [hasN_of hd (by simpa using hk)]; simp
  rw [e] at this
  refine this.mono fun e w' ⟨v, h1, h2, h3⟩ => ?_
  obtain ⟨pa, pc, rfl, hs, -⟩ := row_reads h2
  obtain ⟨b, off, rfl, ha⟩ := hs (by have := (way_lenL (nds xs) k).1; omega)
  exact ⟨⟨b, off, pc, h1, ha⟩, h3⟩
theorem kids_d {xs : List (Nd × Value)} {ad : Option Addr} {cap C : Nat} (hd : Doc (nds xs)) (hlen : xs.length ≤ 4294967296) (hf : ∀ x ∈ xs, Fit x.1) (W : World) (hNL : NL W C ad xs) (hC : C ≤ W.heap.size) (hT : Tt W) (k : Nat) (hk : k < xs.length) :
    Calls Tryd.prog 20 #[.slice ad xs.length cap, .int .i64 k] W fun e w' => (∃ pa pc, e = .returned (.slice pa (kidsL (nds xs) k).length pc) ∧ Sl w' pa (kidsL (nds xs) k).length (ivs (kidsL (nds xs) k))) ∧ Only [] W w' := by
  have := kids_c (cap := cap) k hlen hf W hNL hC hT
  have e : kidsOf (nds xs) (k : Int) = kidsL (nds xs) k := by unfold kidsOf; rw [hasN_of hd (by simpa using hk)]; simp
  rw [e] at this
  refine this.mono fun e w' ⟨v, h1, h2, h3⟩ => ?_
  obtain ⟨pa, pc, rfl, hs, -⟩ := row_reads h2
  exact ⟨⟨pa, pc, h1, hs⟩, h3⟩
theorem ivs_some {l : List Nat} {i k : Nat} (h : l[i]? = some k) : (ivs l)[i]? = some (.int .i64 (k : Int)) := by
  unfold ivs iv; rw [List.getElem?_map, h]; rfl
theorem nds_some {xs : List (Nd × Value)} {k : Nat} (hk : k < (nds xs).length) : ∃ x, xs[k]? = some x ∧ x.1.par = np (nds xs) k := by
  obtain ⟨x, hx⟩ := some_at (xs := xs) (i := k) (by simpa using hk)
  exact ⟨x, hx, (np_of (nds_get hx)).symm⟩
/-- a node's Parent in memory -/
theorem NL.par_at {W : World} {B : Nat} {ad : Option Addr} {xs : List (Nd × Value)} (h : NL W B ad xs) {k p : Nat} (hk : k < (nds xs).length) (hp : np (nds xs) k = (p : Int)) :
    ∃ b off, ad = some ⟨b, off, none⟩ ∧ b < W.heap.size ∧ W.cell? ⟨b, off + k * 13 + 1, none⟩ = some (.int .i64 (p : Int)) := by
  obtain ⟨x, hx, he⟩ := nds_some hk
  obtain ⟨b, off, e, -, hb, hc⟩ := h.at_ hx
  refine ⟨b, off, e, hb, ?_⟩
  rw [← hp, ← he]
  exact hc 1 _ rfl
theorem NL.take {W : World} {B : Nat} {ad : Option Addr} {xs : List (Nd × Value)} (h : NL W B ad xs) (m : Nat) : NL W B ad (xs.take m) := by
  refine ⟨fun h0 => ?_, fun x hx => h.cv x (List.mem_of_mem_take hx)⟩
  obtain ⟨b, off, e, hb, ha⟩ := h.sl (fun h1 => h0 (by rw [List.length_take, h1]; simp))
  refine ⟨b, off, e, hb, ha.1, fun j u hj => ha.2 j u ?_⟩
  conv => lhs; rw [← List.take_append_drop m xs, List.flatMap_append]
  rw [List.getElem?_append_left (List.getElem?_eq_some_iff.1 hj).1]
  exact hj
theorem cntK_le (ns : List Nd) (n : Nat) : cntK ns n ≤ ns.length := by
  unfold cntK
  have := List.countP_le_length (p := fun k => decide (0 ≤ np ns k ∧ np ns k < (n : Int))) (l := List.range ns.length)
  simpa using this
set_option maxRecDepth 100000 in
set_option maxHeartbeats 8000000 in
theorem less_any {xs : List (Nd × Value)} {ad : Option Addr} {cap : Nat} (w : World) (hNL : NL w w.heap.size ad xs) (hl : xs.length ≤ 9223372036854775807) (hcap : xs.length ≤ cap) (hin : ∀ x ∈ xs, In w x) (hT : Tt w) :
    Calls Tryd.prog 7 #[.slice ad xs.length cap] w fun e w' => e = .returned (.bool true) ∧ Only [] w w' := by
  have HBY := hid (beyond_any (cap := cap) w hNL hl (fun x hx => ⟨(hin x hx).font, (hin x hx).chs⟩))
  have HNL := hid hNL
  have HIN := hid hin
  have HT := hid hT
  obtain ⟨n, hn⟩ : ∃ n, xs.length = n := ⟨_, rfl⟩
  have hNn : (nds xs).length = n := by simp [hn]
  have HN := hid hn
  have HNN := hid hNn
  rw [hn] at hl hcap HBY ⊢
  clear hNL hin hT hn hNn
  go_enter Tryd.func7, Tryd.ntmps7
  go_wp2_with fail
  refine HBY.out.mono ?_
  clear HBY
  rintro e w1 ⟨⟨r, rfl, hr⟩, o1⟩
  have H1 := hid o1
  have HR := hid hr
  clear o1 hr
  cases r
  case true =>
    go_wp2_with fail
    go_ret
    exact ⟨rfl, H1.out⟩
  case false =>
    have hb := HR.out rfl
    have HF : Hid (∀ x ∈ xs, Fit x.1) := fun x hx => by
      have hm : x.1 ∈ nds xs := List.mem_map_of_mem (f := Prod.fst) hx
      have := bulk_mem hm
      rw [HNN.out] at this
      exact (HIN.out x hx).fit (by omega) (by omega)
    have hn32 : n ≤ 2147483647 := by omega
    have HC : Hid (∀ W, Only [] w W → Calls Tryd.prog 12 #[.slice ad n cap] W fun e w' => e = .returned (chkV (chkN (nds xs))) ∧ Only [] W w') := fun W o => by
      have := check_any (cap := cap) (by rw [HN.out]; omega) HF.out W (HNL.out.still o) o.size (HT.out.only o (by simp))
      rw [HN.out] at this
      exact this
    clear hb HR
    go_wp2_with fail
    refine (shown_any _ (HT.out.only H1.out (by simp))).mono ?_
    rintro e w2 ⟨rfl, o⟩
    have H2 := hid (H1.out.trans o)
    clear o
    go_wp2_with fail
    refine (HC.out _ H2.out).mono ?_
    rintro e w3 ⟨rfl, o⟩
    have H3 := hid (H2.out.trans o)
    clear o HC
    unfold chkV
    obtain ⟨er, he⟩ : ∃ er, (chkN (nds xs)).2 = er := ⟨_, rfl⟩
    obtain ⟨q, hq⟩ : ∃ q, (chkN (nds xs)).1 = q := ⟨_, rfl⟩
    rw [he, hq]
    have HE := hid he
    clear he hq
    by_cases h0 : er = 0
    case neg =>
      have e1 : (er == 0) = false := by simpa using h0
      have e2 : (er != 0) = true := by simpa using h0
      clear HE h0
      go_wp2_with fail
      go_ret
      exact ⟨rfl, H3.out⟩
    case pos =>
      have hd : Doc (nds xs) := chk_doc.1 (HE.out.trans h0)
      subst h0
      clear HE
      by_cases h200 : (200 : Int) < (n : Int)
      · go_wp2_with fail
        go_ret
        exact ⟨rfl, H3.out⟩
      · have d200 : decide ((200 : Int) < (n : Int)) = false := decide_eq_false h200
        have hn200 : n ≤ 200 := by omega
        clear h200
        have HD := hid hd
        have hPN : PN (nds xs) n := by have := hd.2.2.pn; rwa [HNN.out] at this
        have HPN := hid hPN
        have hn1 : 1 ≤ n := by have := hd.2.1; rw [HNN.out] at this; omega
        have HPA : Hid (∀ W, Only [] w W → ∀ k, k < n → Calls Tryd.prog 21 #[.slice ad n cap, .int .i64 (k : Nat)] W fun e w' => (∃ pb po pc, e = .returned (.slice (some ⟨pb, po, none⟩) (way (nds xs) k).length pc) ∧ At w' pb po (ivs (way (nds xs) k))) ∧ Only [] W w') := fun W o k hk => by
          have := path_d (cap := cap) HD.out (by rw [HN.out]; omega) HF.out W (HNL.out.still o) o.size (HT.out.only o (by simp)) k (by rw [HN.out]; exact hk)
          rw [HN.out] at this
          exact this
        have HKI : Hid (∀ W, Only [] w W → ∀ k, k < n → Calls Tryd.prog 20 #[.slice ad n cap, .int .i64 (k : Nat)] W fun e w' => (∃ pa pc, e = .returned (.slice pa (kidsL (nds xs) k).length pc) ∧ Sl w' pa (kidsL (nds xs) k).length (ivs (kidsL (nds xs) k))) ∧ Only [] W w') := fun W o k hk => by
          have := kids_d (cap := cap) HD.out (by rw [HN.out]; omega) HF.out W (HNL.out.still o) o.size (HT.out.only o (by simp)) k (by rw [HN.out]; exact hk)
          rw [HN.out] at this
          exact this
        clear hd hPN
        go_wp2_with fail
        go_loopw [5, 6] (fun v i wr => ∃ k N : Nat, v = .int .i64 N ∧ i = .int .i64 k ∧ k ≤ n ∧ N ≤ 300 ∧ Hid (N = 1 + cntK (nds xs) k) ∧ Only [] w wr) (fun _ i _ => n - (RowKit.intOf i).toNat)
        case atStart => exact ⟨0, 1, rfl, rfl, by omega, by omega, by show _ = _; rw [cnt_zero], H3.out⟩
        case round =>
          obtain ⟨k, N, rfl, rfl, hk, hN, HM, ho⟩ := hrel
          by_cases hlt : k < n
          · have hkl : (k : Int) < (n : Int) := by omega
            have hk0 : (0 : Int) ≤ (k : Int) := by omega
            have hk2 : (k : Int) ≤ 200 := by omega
            have hN2 : (N : Int) ≤ 300 := by omega
            have HLT := hid hlt
            have HO := hid ho
            clear hlt ho hN hk
            go_wp2_with fail
            refine (HPA.out _ HO.out k HLT.out).mono ?_
            rintro e w4 ⟨⟨pb, po, pc, rfl, hat⟩, o4⟩
            have H4 := hid (HO.out.trans o4)
            have hlen := way_lenL (nds xs) k
            have hll := way_len HPN.out k HLT.out
            have HLINK := hid (way_link HPN.out k HLT.out)
            have HAT := hid hat
            have hc0 := hat.2 0 _ (ivs_some (way_head HPN.out k HLT.out))
            have hcl := hat.2 _ _ (ivs_some hlen.2)
            have hl0 := hlen.1
            simp only [Nat.add_zero] at hc0
            clear hlen hat o4
            obtain ⟨L, hL⟩ : ∃ L, (way (nds xs) k).length = L := ⟨_, rfl⟩
            rw [hL] at hll HLINK hcl hl0 ⊢
            clear hL
            obtain ⟨q, hq⟩ : ∃ q, L - 1 = q := ⟨_, rfl⟩
            rw [hq] at hcl
            have hLq : (L : Int) - 1 = (q : Int) := by omega
            have hL0 : ((L : Int) == 0) = false := by simp; omega
            have hL1 : (0 : Int) < (L : Int) := by omega
            have hqL : (q : Int) < (L : Int) := by omega
            have hL2 : (L : Int) ≤ 201 := by omega
            clear hq hll hl0
            go_wp2_with fail
            clear hc0 hcl hLq hL0 hqL
            go_loopw [8] (fun i wr2 => ∃ j : Nat, i = .int .i64 j ∧ 1 ≤ j ∧ j ≤ L ∧ Only [] w4 wr2) (fun i _ => L - (RowKit.intOf i).toNat)
            case atStart => exact ⟨1, rfl, by omega, by omega, Only.refl _ _⟩
            case round =>
              obtain ⟨j, rfl, hj1, hjL, o5⟩ := hrel
              by_cases hj : j < L
              · obtain ⟨q2, hq2⟩ : ∃ q2, j = q2 + 1 := ⟨j - 1, by omega⟩
                obtain ⟨p, k2, e1, e2, e3, e4⟩ := HLINK.out q2 (by omega)
                have hat' := HAT.out.keep o5 (by simp)
                obtain ⟨nb, no, had, hnb, hnc⟩ := NL.par_at (HNL.out.still (H4.out.trans o5)) (by rw [HNN.out]; exact e3) e4
                rw [← hq2] at e2
                have hr1 := hat'.2 j _ (ivs_some e2)
                have hr2 := hat'.2 q2 _ (ivs_some e1)
                have g1 : ∀ d os, (behind wr d os).cell? ⟨pb, po + j, none⟩ = some (.int .i64 (k2 : Int)) := fun d os => (cell_behind hat'.1 d os).trans hr1
                have g2 : ∀ d os, (behind wr d os).cell? ⟨pb, po + q2, none⟩ = some (.int .i64 (p : Int)) := fun d os => (cell_behind hat'.1 d os).trans hr2
                have g3 : ∀ d os, (behind wr d os).cell? ⟨nb, no + k2 * 13 + 1, none⟩ = some (.int .i64 (p : Int)) := fun d os => (cell_behind hnb d os).trans hnc
                subst had
                have hjq : (j : Int) - 1 = (q2 : Int) := by omega
                have hjl : (j : Int) < (L : Int) := by omega
                have hj0 : (0 : Int) ≤ (j : Int) := by omega
                have hql : (q2 : Int) < (L : Int) := by omega
                have hq0 : (0 : Int) ≤ (q2 : Int) := by omega
                have hkn : (k2 : Int) < (n : Int) := by omega
                have hkp : (0 : Int) ≤ (k2 : Int) := by omega
                have hd1 : decide ((k2 : Int) < 0) = false := decide_eq_false (by omega)
                have hd2 : decide (n ≤ k2) = false := decide_eq_false (by omega)
                have HJ := hid hj
                have H5 := hid o5
                clear hr1 hr2 hat' e1 e2 e3 e4 hnc hnb hq2 hj hjL hj1 o5
                go_wp2_with fail
                refine wp_region_behind (by kernel_rfl) (by kernel_rfl) ?_
                repeat (go_big_quiet_step (fail))
                refine wpQuiet_nil ?_
                intro _ hw'
                obtain ⟨⟨dq, osq⟩, hw''⟩ := hw'
                subst hw''
                go_wp2_with fail
                go_roundw
                case rel => exact ⟨j + 1, by go_num, by omega, HJ.out, H5.out.trans (only_behind _ _ _)⟩
                case measure => have := HJ.out; simp [RowKit.intOf]; omega
              · have hjl : ¬ (j : Int) < (L : Int) := by omega
                have hjd : decide (j < L) = false := decide_eq_false hj
                have H5 := hid (H4.out.trans o5)
                clear hj1 hjL o5
                go_wp2_with fail
                refine (HKI.out _ H5.out k HLT.out).mono ?_
                rintro e w6 ⟨⟨ka, kc, rfl, hs⟩, o6⟩
                have H6 := hid (H5.out.trans o6)
                have HS := hid hs
                have HMEM : Hid (∀ i x, (kidsL (nds xs) (k : Int))[i]? = some x → k < x ∧ x < n ∧ np (nds xs) x = (k : Int)) := fun i x h => by
                  have := kidsL_mem (by rw [HNN.out]; exact HPN.out) (List.mem_of_getElem? h)
                  rwa [HNN.out] at this
                have HRISE := hid (kidsL_rise (nds xs) (k : Int))
                have HCS := hid (cnt_succ (nds xs) k)
                have HKG : Hid (∀ i, i < (kidsL (nds xs) (k : Int)).length → ∃ x, (kidsL (nds xs) (k : Int))[i]? = some x) := fun i h => some_at h
                obtain ⟨KL, hKL⟩ : ∃ l, kidsL (nds xs) (k : Int) = l := ⟨_, rfl⟩
                rw [hKL] at HMEM HRISE HCS HS HKG ⊢
                clear hKL hs o6
                obtain ⟨M, hM⟩ : ∃ M, KL.length = M := ⟨_, rfl⟩
                have HML := hid hM
                rw [hM] at HCS HS HKG ⊢
                have hM2 : M ≤ 300 := by
                  have h1 := HCS.out
                  have h2 := cntK_le (nds xs) (k + 1)
                  rw [HNN.out] at h2
                  omega
                have hM3 : (M : Int) ≤ 300 := by omega
                clear hM
                go_wp2_with fail
                go_loopw [10] (fun i wr2 => ∃ j : Nat, i = .int .i64 j ∧ j ≤ M ∧ Only [] w6 wr2) (fun i _ => M - (RowKit.intOf i).toNat)
                case atStart => exact ⟨0, rfl, by omega, Only.refl _ _⟩
                case round =>
                  obtain ⟨j2, rfl, hjM, o7⟩ := hrel
                  by_cases hj : j2 < M
                  · obtain ⟨x, ex⟩ := HKG.out j2 hj
                    obtain ⟨hkx, hxn, hnp⟩ := HMEM.out _ _ ex
                    obtain ⟨kb, ko, rfl, hat0⟩ := HS.out (by omega)
                    have hat' := hat0.keep o7 (by simp)
                    obtain ⟨nb, no, had, hnb, hnc⟩ := NL.par_at (HNL.out.still (H6.out.trans o7)) (by rw [HNN.out]; exact hxn) hnp
                    have hr1 := hat'.2 j2 _ (ivs_some ex)
                    have g1 : ∀ d os, (behind wr d os).cell? ⟨kb, ko + j2, none⟩ = some (.int .i64 (x : Int)) := fun d os => (cell_behind hat'.1 d os).trans hr1
                    have g3 : ∀ d os, (behind wr d os).cell? ⟨nb, no + x * 13 + 1, none⟩ = some (.int .i64 (k : Int)) := fun d os => (cell_behind hnb d os).trans hnc
                    subst had
                    have hjl : (j2 : Int) < (M : Int) := by omega
                    have hj0 : (0 : Int) ≤ (j2 : Int) := by omega
                    have hxl : (x : Int) < (n : Int) := by omega
                    have hx0 : (0 : Int) ≤ (x : Int) := by omega
                    have hd1 : decide (x ≤ k) = false := decide_eq_false (by omega)
                    have hd2 : decide (n ≤ x) = false := decide_eq_false (by omega)
                    have HJ := hid hj
                    have H7 := hid o7
                    by_cases hz : j2 = 0
                    · have hd3 : decide (0 < j2) = false := decide_eq_false (by omega)
                      have hd3' : decide ((0 : Int) < (j2 : Int)) = false := decide_eq_false (by omega)
                      clear hr1 hat' hat0 ex hkx hxn hnp hnc hnb hj hjM o7 hz
                      go_wp2_with fail
                      refine wp_region_behind (by kernel_rfl) (by kernel_rfl) ?_
                      repeat (go_big_quiet_step (fail))
                      refine wpQuiet_nil ?_
                      intro _ hw'
                      obtain ⟨⟨dq, osq⟩, hw''⟩ := hw'
                      subst hw''
                      go_wp2_with fail
                      go_roundw
                      case rel => exact ⟨j2 + 1, by go_num, HJ.out, H7.out.trans (only_behind _ _ _)⟩
                      case measure => have := HJ.out; simp [RowKit.intOf]; omega
                    · obtain ⟨q2, hq2⟩ : ∃ q2, j2 = q2 + 1 := ⟨j2 - 1, by omega⟩
                      obtain ⟨y, ey⟩ := HKG.out q2 (by omega)
                      have hyx : y < x := by
                        have h1 := List.pairwise_iff_getElem.1 HRISE.out q2 j2
                        obtain ⟨a1, a2⟩ := List.getElem?_eq_some_iff.1 ex
                        obtain ⟨b1, b2⟩ := List.getElem?_eq_some_iff.1 ey
                        have := h1 b1 a1 (by omega)
                        rwa [a2, b2] at this
                      have hr2 := hat'.2 q2 _ (ivs_some ey)
                      have g2 : ∀ d os, (behind wr d os).cell? ⟨kb, ko + q2, none⟩ = some (.int .i64 (y : Int)) := fun d os => (cell_behind hat'.1 d os).trans hr2
                      have hd3 : decide (0 < j2) = true := decide_eq_true (by omega)
                      have hd3' : (0 : Int) < (j2 : Int) := by omega
                      have hd4 : decide (x ≤ y) = false := decide_eq_false (by omega)
                      have hjq : (j2 : Int) - 1 = (q2 : Int) := by omega
                      have hql : (q2 : Int) < (M : Int) := by omega
                      have hq0 : (0 : Int) ≤ (q2 : Int) := by omega
                      clear hr1 hr2 hat' hat0 ex ey hkx hxn hnp hnc hnb hj hjM o7 hz hyx hq2
                      go_wp2_with fail
                      refine wp_region_behind (by kernel_rfl) (by kernel_rfl) ?_
                      repeat (go_big_quiet_step (fail))
                      refine wpQuiet_nil ?_
                      intro _ hw'
                      obtain ⟨⟨dq, osq⟩, hw''⟩ := hw'
                      subst hw''
                      go_wp2_with fail
                      go_roundw
                      case rel => exact ⟨j2 + 1, by go_num, HJ.out, H7.out.trans (only_behind _ _ _)⟩
                      case measure => have := HJ.out; simp [RowKit.intOf]; omega
                  · have hjl : ¬ (j2 : Int) < (M : Int) := by omega
                    have hjd : decide (j2 < M) = false := decide_eq_false hj
                    have H7 := hid (H6.out.trans o7)
                    clear hjM o7
                    go_wp2_with fail
                    go_roundw
                    case rel =>
                      have h1 := HCS.out
                      have h2 := cntK_le (nds xs) (k + 1)
                      have h3 := HM.out
                      rw [HNN.out] at h2
                      exact ⟨k + 1, N + M, by go_num, by go_num, HLT.out, by omega, by show _ = _; omega, H7.out⟩
                    case measure => have := HLT.out; simp [RowKit.intOf]; omega
          · have hkn : k = n := by omega
            have hNe : N = n := by
              have h1 := HM.out
              rw [hkn, ← HNN.out, cnt_all (by rw [HNN.out]; exact HPN.out), HNN.out] at h1
              omega
            have hkd : decide (k < n) = false := decide_eq_false hlt
            have HO := hid ho
            subst hNe
            clear hkn HM hk hN ho
            by_cases h2 : N < 2
            · have h2d : (N : Int) < 2 := by omega
              go_wp2_with fail
              go_ret
              exact ⟨rfl, HO.out⟩
            · have h2d : decide ((N : Int) < 2) = false := decide_eq_false (by omega)
              have h2e : ¬ (N : Int) < 2 := by omega
              obtain ⟨nb, no, had, -, -⟩ := HNL.out.sl (by rw [HN.out]; omega)
              obtain ⟨m, hm⟩ : ∃ m, N - 1 = m := ⟨_, rfl⟩
              have hmi : (N : Int) - 1 = (m : Int) := by omega
              have hmc : m ≤ cap := by omega
              have hmci : (m : Int) ≤ (cap : Int) := by omega
              have HCK : Hid (∀ c W, Only [] w W → Calls Tryd.prog 12 #[.slice ad m c] W fun e w' => e = .returned (.tuple #[.int .i64 0, .int .i64 0]) ∧ Only [] W w') := fun c W o => by
                have hl : (xs.take m).length = m := by rw [List.length_take, HN.out]; omega
                have := check_any (cap := c) (by rw [hl]; omega) (fun x hx => HF.out x (List.mem_of_mem_take hx)) W ((HNL.out.still o).take m) o.size (HT.out.only o (by simp))
                have e : nds (xs.take m) = (nds xs).take ((nds xs).length - 1) := by rw [HNN.out, hm]; unfold nds; rw [List.map_take]
                rw [hl, e, chk_less HD.out (by rw [HNN.out]; omega)] at this
                exact this
              subst had
              clear hm h2
              go_wp2_with fail
              refine (HCK.out _ _ HO.out).mono ?_
              rintro e w6 ⟨rfl, o6⟩
              have H6 := hid (HO.out.trans o6)
              clear o6
              go_wp2_with fail
              go_ret
              exact ⟨rfl, H6.out⟩
end Go.Proofs.YtmlhibcbgdhadaaDoor
