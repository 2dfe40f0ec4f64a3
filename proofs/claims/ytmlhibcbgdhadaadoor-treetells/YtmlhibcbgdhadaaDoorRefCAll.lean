/- The reference's questions on a node's place. -/
import Derived.Test.YtmlhibcbgdhadaaDoorPrn
namespace Go.Proofs.YtmlhibcbgdhadaaDoor
open Go.RowKit

theorem filt_cons (f : Nat → Bool) (k : Nat) (t : List Nat) : ((k :: t).filter f).length = (if f k then 1 else 0) + (t.filter f).length := by
  rw [List.filter_cons]
  split
  · simp; omega
  · simp
set_option maxRecDepth 100000 in
set_option maxHeartbeats 4000000 in
theorem deep_c {xs : List (Nd × Value)} {ad : Option Addr} {cap C n : Nat} (hp : PN (nds xs) (n + 1)) (hn : n < xs.length) (hlen : xs.length ≤ 4294967296) (w : World) (hNL : NL w C ad xs) :
    Calls Tryd.prog 32 #[.slice ad xs.length cap, .int .i64 n] w fun e w' => e = .returned (.int .i64 (deepN (nds xs) n)) ∧ w' = w := by
  have HNL := hid hNL
  have HP := hid hp
  obtain ⟨N, hN⟩ : ∃ N, xs.length = N := ⟨_, rfl⟩
  have HN := hid hN
  have hn2 : (n : Int) ≤ 4294967296 := by omega
  rw [hN] at hn hlen ⊢
  clear hNL hp hN
  go_enter Tryd.func32, Tryd.ntmps32
  go_wp2_with fail
  go_loop [5, 6] (fun m v => ∃ (t : List Nat) (c : Nat) (q : Int), m = .int .i64 c ∧ v = .int .i64 q ∧ -1 ≤ q ∧ q ≤ n ∧ Hid (c = (t.filter fun k => nk (nds xs) k != 4).length ∧ t.length ≤ n + 1 ∧ ((q = -1 ∧ way (nds xs) n = t) ∨ (0 ≤ q ∧ way (nds xs) n = way (nds xs) q.toNat ++ t)))) (fun _ v => (RowKit.intOf v + 1).toNat)
  case atStart => exact ⟨[], 0, n, rfl, rfl, by omega, by omega, rfl, by simp, .inr ⟨by omega, by simp⟩⟩
  case round =>
    obtain ⟨t, c, q, rfl, rfl, hq1, hq2, hst⟩ := hrel
    have hcl : c ≤ n + 1 := by
      rw [hst.out.1]; have := List.length_filter_le (fun k => nk (nds xs) k != 4) t; have := hst.out.2.1; omega
    by_cases hq : 0 ≤ q
    · obtain ⟨k, rfl⟩ : ∃ k : Nat, q = (k : Int) := ⟨q.toNat, by omega⟩
      have hkn : k ≤ n := by omega
      have hw : way (nds xs) n = way (nds xs) k ++ t := by
        rcases hst.out.2.2 with ⟨h, -⟩ | ⟨-, h⟩
        · omega
        · rw [Int.toNat_natCast] at h; exact h
      obtain ⟨x, hx⟩ := some_at (xs := xs) (i := k) (by rw [HN.out]; omega)
      obtain ⟨b, off, rfl, -, hbw, hc⟩ := HNL.out.at_ hx
      have c0 := hc 0 _ rfl
      have c1 := hc 1 _ rfl
      simp only [Nat.add_zero] at c0
      have hpk := HP.out k (by omega)
      have hnp : np (nds xs) k = x.1.par := np_of (nds_get hx)
      have hnk : nk (nds xs) k = x.1.kind := nk_of (nds_get hx)
      have HNK := hid hnk
      have hpar : x.1.par < k ∧ -1 ≤ x.1.par := by
        rw [← hnp]
        rcases Nat.eq_zero_or_pos k with e | e
        · have := hpk.1 e; omega
        · have := hpk.2 e; omega
      have hlen2 := way_len HP.out n (by omega)
      have HNEW : Hid ((k :: t).length ≤ n + 1 ∧ ((x.1.par = -1 ∧ way (nds xs) n = k :: t) ∨ (0 ≤ x.1.par ∧ way (nds xs) n = way (nds xs) x.1.par.toNat ++ (k :: t)))) := by
        have key : ((x.1.par = -1 ∧ way (nds xs) n = k :: t) ∨ (0 ≤ x.1.par ∧ way (nds xs) n = way (nds xs) x.1.par.toNat ++ (k :: t))) := by
          rcases Nat.eq_zero_or_pos k with e | e
          · subst e
            rw [way_zero HP.out (by omega)] at hw
            exact .inl ⟨by rw [← hnp]; exact hpk.1 rfl, by rw [hw]; rfl⟩
          · have h1 := hpk.2 e
            rw [way_pos HP.out (by omega) e, hnp] at hw
            exact .inr ⟨by omega, by rw [hw]; simp⟩
        refine ⟨?_, key⟩
        rcases key with ⟨-, h⟩ | ⟨-, h⟩
        · rw [← h]; exact hlen2
        · rw [h, List.length_append] at hlen2; omega
      have hkl : (k : Int) < (N : Int) := by omega
      have hk0 : (0 : Int) ≤ (k : Int) := by omega
      have hpar1 := hpar.1
      have hpar2 := hpar.2
      have HCC := hid hst.out.1
      by_cases h4 : x.1.kind = 4
      · have h4t : (x.1.kind != 4) = false := by simp [h4]
        have HF : Hid (c = ((k :: t).filter fun k => nk (nds xs) k != 4).length) := by
          show _ = _
          rw [filt_cons, HNK.out, h4t, HCC.out]; simp
        clear hx hc hpk hnp hpar hw hst h4 hlen2 hnk hcl
        go_wp2_with fail
        go_round
        case rel => exact ⟨k :: t, c, x.1.par, rfl, rfl, hpar2, by omega, HF.out, HNEW.out.1, HNEW.out.2⟩
        case measure => simp [RowKit.intOf]; omega
      · have h4t : (x.1.kind != 4) = true := by simp [h4]
        have HF : Hid (c + 1 = ((k :: t).filter fun k => nk (nds xs) k != 4).length) := by
          show _ = _
          rw [filt_cons, HNK.out, h4t, HCC.out]; simp; omega
        have hci : (c : Int) ≤ 4294967297 := by omega
        clear hx hc hpk hnp hpar hw hst h4 hlen2 hnk hcl
        go_wp2_with fail
        go_round
        case rel => exact ⟨k :: t, c + 1, x.1.par, by go_num, rfl, hpar2, by omega, HF.out, HNEW.out.1, HNEW.out.2⟩
        case measure => simp [RowKit.intOf]; omega
    · have e : q = -1 := by omega
      subst e
      have HF : Hid (c = deepN (nds xs) n) := by
        show _ = _
        unfold deepN
        rcases hst.out.2.2 with ⟨-, h⟩ | ⟨h, -⟩
        · rw [h]; exact hst.out.1
        · omega
      clear hst hcl
      go_wp2_with fail
      go_ret
      exact ⟨ret_int (by rw [HF.out]), rfl⟩
end Go.Proofs.YtmlhibcbgdhadaaDoor
namespace Go.Proofs.YtmlhibcbgdhadaaDoor
open Go.RowKit

theorem plcR_neg {ns : List Nd} {n : Nat} (h0 : 0 < n) (h : np ns n < 0) : plcR ns n = false := by
  unfold plcR; rw [if_neg (by omega), decide_eq_false (by omega)]; rfl
theorem plcR_far {ns : List Nd} {n : Nat} (h0 : 0 < n) (h : (n : Int) ≤ np ns n) : plcR ns n = false := by
  unfold plcR; rw [if_neg (by omega), decide_eq_false (by omega)]; rfl
theorem plcR_brs {ns : List Nd} {n p : Nat} (h0 : 0 < n) (hp : np ns n = (p : Int)) (h : brs (nk ns n) (nk ns p) = false) : plcR ns n = false := by
  unfold plcR; rw [if_neg (by omega), hp, Int.toNat_natCast, h]; simp
theorem plcR_mem {ns : List Nd} {n p : Nat} (h0 : 0 < n) (hp : np ns n = (p : Int)) (hlt : p < n) (h : brs (nk ns n) (nk ns p) = true) : plcR ns n = decide (p ∈ way ns (n - 1)) := by
  unfold plcR
  rw [if_neg (by omega), hp, Int.toNat_natCast, h, decide_eq_true (⟨by omega, by omega⟩ : 0 ≤ (p : Int) ∧ (p : Int) < (n : Int))]
  rfl
/-- what bears what, by cases -/
theorem brs_ways (k p : Int) : (k = 2 ∧ p = 1 ∧ brs k p = true) ∨ (k = 2 ∧ p ≠ 1 ∧ brs k p = false) ∨ ((k = 3 ∨ k = 4 ∨ k = 5) ∧ p = 2 ∧ brs k p = true) ∨ ((k = 3 ∨ k = 4 ∨ k = 5) ∧ p = 3 ∧ brs k p = true) ∨ ((k = 3 ∨ k = 4 ∨ k = 5) ∧ p ≠ 2 ∧ p ≠ 3 ∧ brs k p = false) ∨ (k ≠ 2 ∧ k ≠ 3 ∧ k ≠ 4 ∧ k ≠ 5 ∧ brs k p = false) := by
  unfold brs
  by_cases h2 : k = 2
  · by_cases p1 : p = 1
    · exact .inl ⟨h2, p1, by rw [h2, p1]; rfl⟩
    · exact .inr (.inl ⟨h2, p1, by rw [h2]; simp [p1]⟩)
  by_cases h3 : k = 3 ∨ k = 4 ∨ k = 5
  · by_cases p2 : p = 2
    · exact .inr (.inr (.inl ⟨h3, p2, by rcases h3 with e | e | e <;> rw [e, p2] <;> rfl⟩))
    by_cases p3 : p = 3
    · exact .inr (.inr (.inr (.inl ⟨h3, p3, by rcases h3 with e | e | e <;> rw [e, p3] <;> rfl⟩)))
    · exact .inr (.inr (.inr (.inr (.inl ⟨h3, p2, p3, by rcases h3 with e | e | e <;> rw [e] <;> simp [p2, p3]⟩))))
  · refine .inr (.inr (.inr (.inr (.inr ⟨h2, by omega, by omega, by omega, ?_⟩))))
    have a : (k == 2) = false := by simpa using h2
    have b : (k == 3) = false := by simp; omega
    have c : (k == 4) = false := by simp; omega
    have d : (k == 5) = false := by simp; omega
    rw [a, b, c, d]; rfl
set_option maxRecDepth 100000 in
set_option maxHeartbeats 8000000 in
theorem placed_c {xs : List (Nd × Value)} {ad : Option Addr} {cap C n : Nat} (hg : Gd (nds xs) n) (hn : n < xs.length) (hlen : xs.length ≤ 4294967296) (w : World) (hNL : NL w C ad xs) :
    Calls Tryd.prog 31 #[.slice ad xs.length cap, .int .i64 n] w fun e w' => e = .returned (.bool (plcR (nds xs) n)) ∧ Only [] w w' := by
  obtain ⟨x, hx⟩ := some_at (xs := xs) (i := n) hn
  obtain ⟨xn, xv⟩ := x
  obtain ⟨ca, cc, hcv, -⟩ := hNL.cv _ (List.mem_of_getElem? hx)
  dsimp only at hcv
  subst hcv
  obtain ⟨b, off, rfl, hbC, hbw, hc⟩ := hNL.at_ hx
  have hkx := nk_of (nds_get hx)
  have hpx := np_of (nds_get hx)
  dsimp only at hkx hpx
  have HNL := hid hNL
  have hnl : (n : Int) < (xs.length : Int) := by omega
  have hn0 : (0 : Int) ≤ (n : Int) := by omega
  have hn8 : (n : Int) ≤ 4294967296 := by omega
  obtain ⟨m, hm⟩ : ∃ m, xn.chs.length = m := ⟨_, rfl⟩
  rw [hm] at hc
  have c0 := hc 0 _ rfl
  have c1 := hc 1 _ rfl
  have c2 := hc 2 _ rfl
  have c3 := hc 3 _ rfl
  have c4 := hc 4 _ rfl
  have c5 := hc 5 _ rfl
  have c6 := hc 6 _ rfl
  have c7 := hc 7 _ rfl
  have c8 := hc 8 _ rfl
  have c9 := hc 9 _ rfl
  have c10 := hc 10 _ rfl
  have c11 := hc 11 _ rfl
  have c12 := hc 12 _ rfl
  simp only [Nat.add_zero] at c0
  dsimp only at c0 c1 c2 c3 c4 c5 c6 c7 c8 c9 c10 c11
  have HBW := hid hbw
  have HKEEP : Hid (∀ (o : Obj) i v, w.cell? ⟨b, i, none⟩ = some v → (w.alloc o).cell? ⟨b, i, none⟩ = some v) := fun o i v h => (cell_past w o b i HBW.out).trans h
  have HAT : Hid (∀ k, k < xs.length → ∀ o : Obj, (w.alloc o).cell? ⟨b, off + k * 13, none⟩ = some (.int .i64 (nk (nds xs) k)) ∧ (w.alloc o).cell? ⟨b, off + k * 13 + 1, none⟩ = some (.int .i64 (np (nds xs) k))) := fun k hk o => by
    obtain ⟨y, hy⟩ := some_at (xs := xs) (i := k) hk
    obtain ⟨b', off', e', -, -, hc'⟩ := HNL.out.at_ hy
    cases e'
    have d0 := hc' 0 _ rfl
    simp only [Nat.add_zero] at d0
    rw [nk_of (nds_get hy), np_of (nds_get hy)]
    exact ⟨HKEEP.out o _ _ d0, HKEEP.out o _ _ (hc' 1 _ rfl)⟩
  obtain ⟨r, hr⟩ : ∃ r, plcR (nds xs) n = r := ⟨_, rfl⟩
  have HR := hid hr
  have HG := hid hg
  have HN := hid hn
  rw [hr]
  clear hr hx hc hm hNL hbC hbw hg
  rcases Nat.eq_zero_or_pos n with e | hpos
  · have e1 : (decide (xn.kind = 1) && decide (xn.par = -1)) = r := by
      subst e
      rw [← HR.out]; unfold plcR; rw [if_pos rfl, hkx, hpx]
      rw [Bool.eq_iff_iff]; simp
    have g0 : ((n : Int) == 0) = true := by simp; omega
    clear e
    generalize xs.length = N at *
    by_cases k1 : xn.kind = 1
    · by_cases p1 : xn.par = -1
      · rw [decide_eq_true k1, decide_eq_true p1] at e1
        subst e1
        have g1 : (xn.kind == 1) = true := by simp [k1]
        have g2 : (xn.par == -1) = true := by simp [p1]
        clear k1 p1 hkx hpx
        go_enter Tryd.func31, Tryd.ntmps31
        go_wp2_with fail
        go_ret
        exact ⟨rfl, (Only.refl _ _).alloc _⟩
      · rw [decide_eq_true k1, decide_eq_false p1] at e1
        subst e1
        have g1 : (xn.kind == 1) = true := by simp [k1]
        have g2 : (xn.par == -1) = false := by simp [p1]
        clear k1 p1 hkx hpx
        go_enter Tryd.func31, Tryd.ntmps31
        go_wp2_with fail
        go_ret
        exact ⟨rfl, (Only.refl _ _).alloc _⟩
    · rw [decide_eq_false k1] at e1
      subst e1
      have g1 : (xn.kind == 1) = false := by simp [k1]
      clear k1 hkx hpx
      go_enter Tryd.func31, Tryd.ntmps31
      go_wp2_with fail
      go_ret
      exact ⟨rfl, (Only.refl _ _).alloc _⟩
  · have hn1 : (1 : Int) ≤ (n : Int) := by omega
    have gn : ((n : Int) == 0) = false := by simp; omega
    by_cases hneg : xn.par < 0
    · have hf : r = false := by rw [← HR.out]; exact plcR_neg hpos (by rw [hpx]; exact hneg)
      subst hf
      have hd : decide (xn.par < 0) = true := decide_eq_true hneg
      clear hkx hpx
      generalize xs.length = N at *
      go_enter Tryd.func31, Tryd.ntmps31
      go_wp2_with fail
      go_ret
      exact ⟨rfl, (Only.refl _ _).alloc _⟩
    · have hnd : decide (xn.par < 0) = false := decide_eq_false hneg
      by_cases hfar : (n : Int) ≤ xn.par
      · have hf : r = false := by rw [← HR.out]; exact plcR_far hpos (by rw [hpx]; exact hfar)
        subst hf
        have hd : decide ((n : Int) ≤ xn.par) = true := decide_eq_true hfar
        clear hkx hpx
        generalize xs.length = N at *
        go_enter Tryd.func31, Tryd.ntmps31
        go_wp2_with fail
        go_ret
        exact ⟨rfl, (Only.refl _ _).alloc _⟩
      · have hd : decide ((n : Int) ≤ xn.par) = false := decide_eq_false hfar
        obtain ⟨p, hp⟩ : ∃ p : Nat, xn.par = (p : Int) := ⟨xn.par.toNat, by omega⟩
        rw [hp] at hnd hd hneg hfar c1 hpx
        have hpn : p < n := by omega
        have hpl : (p : Int) < (xs.length : Int) := by omega
        have hp0 : (0 : Int) ≤ (p : Int) := by omega
        have q0 := fun o => (HAT.out p (by have := HN.out; omega) o).1
        have HB := hid (brs_ways xn.kind (nk (nds xs) p))
        have HRB : Hid (brs xn.kind (nk (nds xs) p) = false → r = false) := fun h => by rw [← HR.out]; exact plcR_brs hpos hpx (by rw [hkx]; exact h)
        have HRM : Hid (brs xn.kind (nk (nds xs) p) = true → r = decide (p ∈ way (nds xs) (n - 1))) := fun h => by rw [← HR.out]; exact plcR_mem hpos hpx hpn (by rw [hkx]; exact h)
        obtain ⟨kp, hkp⟩ : ∃ kp, nk (nds xs) p = kp := ⟨_, rfl⟩
        rw [hkp] at q0 HB HRB HRM
        have HPN := hid (HG.out.pn)
        obtain ⟨N, hN⟩ : ∃ N, xs.length = N := ⟨_, rfl⟩
        rw [hN] at hnl hpl HAT HN ⊢
        clear hkp hN hneg hfar hkx hpx HR hlen
        have bad : brs xn.kind kp = false → r = false := HRB.out
        have loopfin : brs xn.kind kp = true → r = decide (p ∈ way (nds xs) (n - 1)) := HRM.out
        have Hb := hid bad
        have Hl := hid loopfin
        clear bad loopfin
        rcases HB.out with ⟨k2, kp1, hb⟩ | ⟨k2, kp1, hb⟩ | ⟨k3, kp2, hb⟩ | ⟨k3, kp2, hb⟩ | ⟨k3, kp2, kp3, hb⟩ | ⟨a2, a3, a4, a5, hb⟩
        · have hrr := hid (Hl.out hb)
          have g1 : (xn.kind == 2) = true := by simp [k2]
          have g2 : (kp == 1) = true := by simp [kp1]
          have g3 : (kp != 1) = false := by simp [kp1]
          clear k2 kp1 hb
          go_enter Tryd.func31, Tryd.ntmps31
          go_wp2_with fail
          go_loop [7] (fun v => ∃ (t : List Nat) (q : Int), v = .int .i64 q ∧ -1 ≤ q ∧ q < n ∧ Hid (p ∉ t ∧ ((q = -1 ∧ way (nds xs) (n - 1) = t) ∨ (0 ≤ q ∧ way (nds xs) (n - 1) = way (nds xs) q.toNat ++ t)))) (fun v => (RowKit.intOf v + 1).toNat)
          case atStart => exact ⟨[], (n : Int) - 1, rfl, by omega, by omega, by simp, .inr ⟨by omega, by rw [show ((n : Int) - 1).toNat = n - 1 by omega]; simp⟩⟩
          case round =>
            obtain ⟨t, q, rfl, hq1, hq2, hst⟩ := hrel
            by_cases hq : 0 ≤ q
            · obtain ⟨k, rfl⟩ : ∃ k : Nat, q = (k : Int) := ⟨q.toNat, by omega⟩
              have hkn : k < n := by omega
              have hw : way (nds xs) (n - 1) = way (nds xs) k ++ t := by
                rcases hst.out.2 with ⟨h, -⟩ | ⟨-, h⟩
                · omega
                · rw [Int.toNat_natCast] at h; exact h
              have d1 := fun o => (HAT.out k (by have := HN.out; omega) o).2
              have hpk := HPN.out k hkn
              have hkl : (k : Int) < (N : Int) := by have := HN.out; omega
              have hk0 : (0 : Int) ≤ (k : Int) := by omega
              by_cases hkp : k = p
              · have hf : r = true := by
                  rw [hrr.out]; refine decide_eq_true ?_
                  rw [hw, ← hkp]; exact List.mem_append_left _ (way_mem k)
                have ge : ((k : Int) == (p : Int)) = true := by simp; omega
                clear hkp hpk hw hst
                go_wp2_with fail
                go_ret
                exact ⟨rfl, (Only.refl _ _).alloc _⟩
              · have ge : ((k : Int) == (p : Int)) = false := by simp; omega
                have hpar : np (nds xs) k < k ∧ -1 ≤ np (nds xs) k := by
                  rcases Nat.eq_zero_or_pos k with e | e
                  · have := hpk.1 e; omega
                  · have := hpk.2 e; omega
                have HNEW : Hid (p ∉ k :: t ∧ ((np (nds xs) k = -1 ∧ way (nds xs) (n - 1) = k :: t) ∨ (0 ≤ np (nds xs) k ∧ way (nds xs) (n - 1) = way (nds xs) (np (nds xs) k).toNat ++ (k :: t)))) := by
                  refine ⟨?_, ?_⟩
                  · rw [List.mem_cons]; rintro (h | h)
                    · exact hkp h.symm
                    · exact hst.out.1 h
                  · rcases Nat.eq_zero_or_pos k with e | e
                    · subst e
                      rw [way_zero HPN.out (by omega)] at hw
                      exact .inl ⟨hpk.1 rfl, by rw [hw]; rfl⟩
                    · have h1 := hpk.2 e
                      rw [way_pos HPN.out (by omega) e] at hw
                      exact .inr ⟨by omega, by rw [hw]; simp⟩
                obtain ⟨z, hz⟩ : ∃ z, np (nds xs) k = z := ⟨_, rfl⟩
                rw [hz] at d1 hpar HNEW
                have hpar1 := hpar.1
                have hpar2 := hpar.2
                clear hkp hpk hw hst hpar hz
                go_wp2_with fail
                go_round
                case rel => exact ⟨k :: t, z, rfl, hpar2, by omega, HNEW.out.1, HNEW.out.2⟩
                case measure => simp [RowKit.intOf]; omega
            · have e : q = -1 := by omega
              subst e
              have hf : r = false := by
                rw [hrr.out]; refine decide_eq_false ?_
                rcases hst.out.2 with ⟨-, h⟩ | ⟨h, -⟩
                · rw [h]; exact hst.out.1
                · omega
              clear hst
              go_wp2_with fail
              go_ret
              exact ⟨rfl, (Only.refl _ _).alloc _⟩
        · have hf := Hb.out hb
          subst hf
          have g1 : (xn.kind == 2) = true := by simp [k2]
          have g2 : (kp == 1) = false := by simp [kp1]
          have g3 : (kp != 1) = true := by simp [kp1]
          clear k2 kp1 hb
          go_enter Tryd.func31, Tryd.ntmps31
          go_wp2_with fail
          go_ret
          exact ⟨rfl, (Only.refl _ _).alloc _⟩
        · have hrr := hid (Hl.out hb)
          rcases k3 with k3 | k3 | k3
          · have g1 : (xn.kind == 2) = false := by simp [k3]
            have h3 : (xn.kind == 3) = true := by simp [k3]
            have g2 : (kp != 2) = false := by simp [kp2]
            clear k3 kp2 hb
            go_enter Tryd.func31, Tryd.ntmps31
            go_wp2_with fail
            go_loop [7] (fun v => ∃ (t : List Nat) (q : Int), v = .int .i64 q ∧ -1 ≤ q ∧ q < n ∧ Hid (p ∉ t ∧ ((q = -1 ∧ way (nds xs) (n - 1) = t) ∨ (0 ≤ q ∧ way (nds xs) (n - 1) = way (nds xs) q.toNat ++ t)))) (fun v => (RowKit.intOf v + 1).toNat)
            case atStart => exact ⟨[], (n : Int) - 1, rfl, by omega, by omega, by simp, .inr ⟨by omega, by rw [show ((n : Int) - 1).toNat = n - 1 by omega]; simp⟩⟩
            case round =>
              obtain ⟨t, q, rfl, hq1, hq2, hst⟩ := hrel
              by_cases hq : 0 ≤ q
              · obtain ⟨k, rfl⟩ : ∃ k : Nat, q = (k : Int) := ⟨q.toNat, by omega⟩
                have hkn : k < n := by omega
                have hw : way (nds xs) (n - 1) = way (nds xs) k ++ t := by
                  rcases hst.out.2 with ⟨h, -⟩ | ⟨-, h⟩
                  · omega
                  · rw [Int.toNat_natCast] at h; exact h
                have d1 := fun o => (HAT.out k (by have := HN.out; omega) o).2
                have hpk := HPN.out k hkn
                have hkl : (k : Int) < (N : Int) := by have := HN.out; omega
                have hk0 : (0 : Int) ≤ (k : Int) := by omega
                by_cases hkp : k = p
                · have hf : r = true := by
                    rw [hrr.out]; refine decide_eq_true ?_
                    rw [hw, ← hkp]; exact List.mem_append_left _ (way_mem k)
                  have ge : ((k : Int) == (p : Int)) = true := by simp; omega
                  clear hkp hpk hw hst
                  go_wp2_with fail
                  go_ret
                  exact ⟨rfl, (Only.refl _ _).alloc _⟩
                · have ge : ((k : Int) == (p : Int)) = false := by simp; omega
                  have hpar : np (nds xs) k < k ∧ -1 ≤ np (nds xs) k := by
                    rcases Nat.eq_zero_or_pos k with e | e
                    · have := hpk.1 e; omega
                    · have := hpk.2 e; omega
                  have HNEW : Hid (p ∉ k :: t ∧ ((np (nds xs) k = -1 ∧ way (nds xs) (n - 1) = k :: t) ∨ (0 ≤ np (nds xs) k ∧ way (nds xs) (n - 1) = way (nds xs) (np (nds xs) k).toNat ++ (k :: t)))) := by
                    refine ⟨?_, ?_⟩
                    · rw [List.mem_cons]; rintro (h | h)
                      · exact hkp h.symm
                      · exact hst.out.1 h
                    · rcases Nat.eq_zero_or_pos k with e | e
                      · subst e
                        rw [way_zero HPN.out (by omega)] at hw
                        exact .inl ⟨hpk.1 rfl, by rw [hw]; rfl⟩
                      · have h1 := hpk.2 e
                        rw [way_pos HPN.out (by omega) e] at hw
                        exact .inr ⟨by omega, by rw [hw]; simp⟩
                  obtain ⟨z, hz⟩ : ∃ z, np (nds xs) k = z := ⟨_, rfl⟩
                  rw [hz] at d1 hpar HNEW
                  have hpar1 := hpar.1
                  have hpar2 := hpar.2
                  clear hkp hpk hw hst hpar hz
                  go_wp2_with fail
                  go_round
                  case rel => exact ⟨k :: t, z, rfl, hpar2, by omega, HNEW.out.1, HNEW.out.2⟩
                  case measure => simp [RowKit.intOf]; omega
              · have e : q = -1 := by omega
                subst e
                have hf : r = false := by
                  rw [hrr.out]; refine decide_eq_false ?_
                  rcases hst.out.2 with ⟨-, h⟩ | ⟨h, -⟩
                  · rw [h]; exact hst.out.1
                  · omega
                clear hst
                go_wp2_with fail
                go_ret
                exact ⟨rfl, (Only.refl _ _).alloc _⟩
          · have g1 : (xn.kind == 2) = false := by simp [k3]
            have h3 : (xn.kind == 3) = false := by simp [k3]
            have h4 : (xn.kind == 4) = true := by simp [k3]
            have g2 : (kp != 2) = false := by simp [kp2]
            clear k3 kp2 hb
            go_enter Tryd.func31, Tryd.ntmps31
            go_wp2_with fail
            go_loop [7] (fun v => ∃ (t : List Nat) (q : Int), v = .int .i64 q ∧ -1 ≤ q ∧ q < n ∧ Hid (p ∉ t ∧ ((q = -1 ∧ way (nds xs) (n - 1) = t) ∨ (0 ≤ q ∧ way (nds xs) (n - 1) = way (nds xs) q.toNat ++ t)))) (fun v => (RowKit.intOf v + 1).toNat)
            case atStart => exact ⟨[], (n : Int) - 1, rfl, by omega, by omega, by simp, .inr ⟨by omega, by rw [show ((n : Int) - 1).toNat = n - 1 by omega]; simp⟩⟩
            case round =>
              obtain ⟨t, q, rfl, hq1, hq2, hst⟩ := hrel
              by_cases hq : 0 ≤ q
              · obtain ⟨k, rfl⟩ : ∃ k : Nat, q = (k : Int) := ⟨q.toNat, by omega⟩
                have hkn : k < n := by omega
                have hw : way (nds xs) (n - 1) = way (nds xs) k ++ t := by
                  rcases hst.out.2 with ⟨h, -⟩ | ⟨-, h⟩
                  · omega
                  · rw [Int.toNat_natCast] at h; exact h
                have d1 := fun o => (HAT.out k (by have := HN.out; omega) o).2
                have hpk := HPN.out k hkn
                have hkl : (k : Int) < (N : Int) := by have := HN.out; omega
                have hk0 : (0 : Int) ≤ (k : Int) := by omega
                by_cases hkp : k = p
                · have hf : r = true := by
                    rw [hrr.out]; refine decide_eq_true ?_
                    rw [hw, ← hkp]; exact List.mem_append_left _ (way_mem k)
                  have ge : ((k : Int) == (p : Int)) = true := by simp; omega
                  clear hkp hpk hw hst
                  go_wp2_with fail
                  go_ret
                  exact ⟨rfl, (Only.refl _ _).alloc _⟩
                · have ge : ((k : Int) == (p : Int)) = false := by simp; omega
                  have hpar : np (nds xs) k < k ∧ -1 ≤ np (nds xs) k := by
                    rcases Nat.eq_zero_or_pos k with e | e
                    · have := hpk.1 e; omega
                    · have := hpk.2 e; omega
                  have HNEW : Hid (p ∉ k :: t ∧ ((np (nds xs) k = -1 ∧ way (nds xs) (n - 1) = k :: t) ∨ (0 ≤ np (nds xs) k ∧ way (nds xs) (n - 1) = way (nds xs) (np (nds xs) k).toNat ++ (k :: t)))) := by
                    refine ⟨?_, ?_⟩
                    · rw [List.mem_cons]; rintro (h | h)
                      · exact hkp h.symm
                      · exact hst.out.1 h
                    · rcases Nat.eq_zero_or_pos k with e | e
                      · subst e
                        rw [way_zero HPN.out (by omega)] at hw
                        exact .inl ⟨hpk.1 rfl, by rw [hw]; rfl⟩
                      · have h1 := hpk.2 e
                        rw [way_pos HPN.out (by omega) e] at hw
                        exact .inr ⟨by omega, by rw [hw]; simp⟩
                  obtain ⟨z, hz⟩ : ∃ z, np (nds xs) k = z := ⟨_, rfl⟩
                  rw [hz] at d1 hpar HNEW
                  have hpar1 := hpar.1
                  have hpar2 := hpar.2
                  clear hkp hpk hw hst hpar hz
                  go_wp2_with fail
                  go_round
                  case rel => exact ⟨k :: t, z, rfl, hpar2, by omega, HNEW.out.1, HNEW.out.2⟩
                  case measure => simp [RowKit.intOf]; omega
              · have e : q = -1 := by omega
                subst e
                have hf : r = false := by
                  rw [hrr.out]; refine decide_eq_false ?_
                  rcases hst.out.2 with ⟨-, h⟩ | ⟨h, -⟩
                  · rw [h]; exact hst.out.1
                  · omega
                clear hst
                go_wp2_with fail
                go_ret
                exact ⟨rfl, (Only.refl _ _).alloc _⟩
          · have g1 : (xn.kind == 2) = false := by simp [k3]
            have h3 : (xn.kind == 3) = false := by simp [k3]
            have h4 : (xn.kind == 4) = false := by simp [k3]
            have h5 : (xn.kind == 5) = true := by simp [k3]
            have g2 : (kp != 2) = false := by simp [kp2]
            clear k3 kp2 hb
            go_enter Tryd.func31, Tryd.ntmps31
            go_wp2_with fail
            go_loop [7] (fun v => ∃ (t : List Nat) (q : Int), v = .int .i64 q ∧ -1 ≤ q ∧ q < n ∧ Hid (p ∉ t ∧ ((q = -1 ∧ way (nds xs) (n - 1) = t) ∨ (0 ≤ q ∧ way (nds xs) (n - 1) = way (nds xs) q.toNat ++ t)))) (fun v => (RowKit.intOf v + 1).toNat)
            case atStart => exact ⟨[], (n : Int) - 1, rfl, by omega, by omega, by simp, .inr ⟨by omega, by rw [show ((n : Int) - 1).toNat = n - 1 by omega]; simp⟩⟩
            case round =>
              obtain ⟨t, q, rfl, hq1, hq2, hst⟩ := hrel
              by_cases hq : 0 ≤ q
              · obtain ⟨k, rfl⟩ : ∃ k : Nat, q = (k : Int) := ⟨q.toNat, by omega⟩
                have hkn : k < n := by omega
                have hw : way (nds xs) (n - 1) = way (nds xs) k ++ t := by
                  rcases hst.out.2 with ⟨h, -⟩ | ⟨-, h⟩
                  · omega
                  · rw [Int.toNat_natCast] at h; exact h
                have d1 := fun o => (HAT.out k (by have := HN.out; omega) o).2
                have hpk := HPN.out k hkn
                have hkl : (k : Int) < (N : Int) := by have := HN.out; omega
                have hk0 : (0 : Int) ≤ (k : Int) := by omega
                by_cases hkp : k = p
                · have hf : r = true := by
                    rw [hrr.out]; refine decide_eq_true ?_
                    rw [hw, ← hkp]; exact List.mem_append_left _ (way_mem k)
                  have ge : ((k : Int) == (p : Int)) = true := by simp; omega
                  clear hkp hpk hw hst
                  go_wp2_with fail
                  go_ret
                  exact ⟨rfl, (Only.refl _ _).alloc _⟩
                · have ge : ((k : Int) == (p : Int)) = false := by simp; omega
                  have hpar : np (nds xs) k < k ∧ -1 ≤ np (nds xs) k := by
                    rcases Nat.eq_zero_or_pos k with e | e
                    · have := hpk.1 e; omega
                    · have := hpk.2 e; omega
                  have HNEW : Hid (p ∉ k :: t ∧ ((np (nds xs) k = -1 ∧ way (nds xs) (n - 1) = k :: t) ∨ (0 ≤ np (nds xs) k ∧ way (nds xs) (n - 1) = way (nds xs) (np (nds xs) k).toNat ++ (k :: t)))) := by
                    refine ⟨?_, ?_⟩
                    · rw [List.mem_cons]; rintro (h | h)
                      · exact hkp h.symm
                      · exact hst.out.1 h
                    · rcases Nat.eq_zero_or_pos k with e | e
                      · subst e
                        rw [way_zero HPN.out (by omega)] at hw
                        exact .inl ⟨hpk.1 rfl, by rw [hw]; rfl⟩
                      · have h1 := hpk.2 e
                        rw [way_pos HPN.out (by omega) e] at hw
                        exact .inr ⟨by omega, by rw [hw]; simp⟩
                  obtain ⟨z, hz⟩ : ∃ z, np (nds xs) k = z := ⟨_, rfl⟩
                  rw [hz] at d1 hpar HNEW
                  have hpar1 := hpar.1
                  have hpar2 := hpar.2
                  clear hkp hpk hw hst hpar hz
                  go_wp2_with fail
                  go_round
                  case rel => exact ⟨k :: t, z, rfl, hpar2, by omega, HNEW.out.1, HNEW.out.2⟩
                  case measure => simp [RowKit.intOf]; omega
              · have e : q = -1 := by omega
                subst e
                have hf : r = false := by
                  rw [hrr.out]; refine decide_eq_false ?_
                  rcases hst.out.2 with ⟨-, h⟩ | ⟨h, -⟩
                  · rw [h]; exact hst.out.1
                  · omega
                clear hst
                go_wp2_with fail
                go_ret
                exact ⟨rfl, (Only.refl _ _).alloc _⟩
        · have hrr := hid (Hl.out hb)
          rcases k3 with k3 | k3 | k3
          · have g1 : (xn.kind == 2) = false := by simp [k3]
            have h3 : (xn.kind == 3) = true := by simp [k3]
            have g2 : (kp != 2) = true := by simp [kp2]
            have g3 : (kp != 3) = false := by simp [kp2]
            clear k3 kp2 hb
            go_enter Tryd.func31, Tryd.ntmps31
            go_wp2_with fail
            go_loop [7] (fun v => ∃ (t : List Nat) (q : Int), v = .int .i64 q ∧ -1 ≤ q ∧ q < n ∧ Hid (p ∉ t ∧ ((q = -1 ∧ way (nds xs) (n - 1) = t) ∨ (0 ≤ q ∧ way (nds xs) (n - 1) = way (nds xs) q.toNat ++ t)))) (fun v => (RowKit.intOf v + 1).toNat)
            case atStart => exact ⟨[], (n : Int) - 1, rfl, by omega, by omega, by simp, .inr ⟨by omega, by rw [show ((n : Int) - 1).toNat = n - 1 by omega]; simp⟩⟩
            case round =>
              obtain ⟨t, q, rfl, hq1, hq2, hst⟩ := hrel
              by_cases hq : 0 ≤ q
              · obtain ⟨k, rfl⟩ : ∃ k : Nat, q = (k : Int) := ⟨q.toNat, by omega⟩
                have hkn : k < n := by omega
                have hw : way (nds xs) (n - 1) = way (nds xs) k ++ t := by
                  rcases hst.out.2 with ⟨h, -⟩ | ⟨-, h⟩
                  · omega
                  · rw [Int.toNat_natCast] at h; exact h
                have d1 := fun o => (HAT.out k (by have := HN.out; omega) o).2
                have hpk := HPN.out k hkn
                have hkl : (k : Int) < (N : Int) := by have := HN.out; omega
                have hk0 : (0 : Int) ≤ (k : Int) := by omega
                by_cases hkp : k = p
                · have hf : r = true := by
                    rw [hrr.out]; refine decide_eq_true ?_
                    rw [hw, ← hkp]; exact List.mem_append_left _ (way_mem k)
                  have ge : ((k : Int) == (p : Int)) = true := by simp; omega
                  clear hkp hpk hw hst
                  go_wp2_with fail
                  go_ret
                  exact ⟨rfl, (Only.refl _ _).alloc _⟩
                · have ge : ((k : Int) == (p : Int)) = false := by simp; omega
                  have hpar : np (nds xs) k < k ∧ -1 ≤ np (nds xs) k := by
                    rcases Nat.eq_zero_or_pos k with e | e
                    · have := hpk.1 e; omega
                    · have := hpk.2 e; omega
                  have HNEW : Hid (p ∉ k :: t ∧ ((np (nds xs) k = -1 ∧ way (nds xs) (n - 1) = k :: t) ∨ (0 ≤ np (nds xs) k ∧ way (nds xs) (n - 1) = way (nds xs) (np (nds xs) k).toNat ++ (k :: t)))) := by
                    refine ⟨?_, ?_⟩
                    · rw [List.mem_cons]; rintro (h | h)
                      · exact hkp h.symm
                      · exact hst.out.1 h
                    · rcases Nat.eq_zero_or_pos k with e | e
                      · subst e
                        rw [way_zero HPN.out (by omega)] at hw
                        exact .inl ⟨hpk.1 rfl, by rw [hw]; rfl⟩
                      · have h1 := hpk.2 e
                        rw [way_pos HPN.out (by omega) e] at hw
                        exact .inr ⟨by omega, by rw [hw]; simp⟩
                  obtain ⟨z, hz⟩ : ∃ z, np (nds xs) k = z := ⟨_, rfl⟩
                  rw [hz] at d1 hpar HNEW
                  have hpar1 := hpar.1
                  have hpar2 := hpar.2
                  clear hkp hpk hw hst hpar hz
                  go_wp2_with fail
                  go_round
                  case rel => exact ⟨k :: t, z, rfl, hpar2, by omega, HNEW.out.1, HNEW.out.2⟩
                  case measure => simp [RowKit.intOf]; omega
              · have e : q = -1 := by omega
                subst e
                have hf : r = false := by
                  rw [hrr.out]; refine decide_eq_false ?_
                  rcases hst.out.2 with ⟨-, h⟩ | ⟨h, -⟩
                  · rw [h]; exact hst.out.1
                  · omega
                clear hst
                go_wp2_with fail
                go_ret
                exact ⟨rfl, (Only.refl _ _).alloc _⟩
          · have g1 : (xn.kind == 2) = false := by simp [k3]
            have h3 : (xn.kind == 3) = false := by simp [k3]
            have h4 : (xn.kind == 4) = true := by simp [k3]
            have g2 : (kp != 2) = true := by simp [kp2]
            have g3 : (kp != 3) = false := by simp [kp2]
            clear k3 kp2 hb
            go_enter Tryd.func31, Tryd.ntmps31
            go_wp2_with fail
            go_loop [7] (fun v => ∃ (t : List Nat) (q : Int), v = .int .i64 q ∧ -1 ≤ q ∧ q < n ∧ Hid (p ∉ t ∧ ((q = -1 ∧ way (nds xs) (n - 1) = t) ∨ (0 ≤ q ∧ way (nds xs) (n - 1) = way (nds xs) q.toNat ++ t)))) (fun v => (RowKit.intOf v + 1).toNat)
            case atStart => exact ⟨[], (n : Int) - 1, rfl, by omega, by omega, by simp, .inr ⟨by omega, by rw [show ((n : Int) - 1).toNat = n - 1 by omega]; simp⟩⟩
            case round =>
              obtain ⟨t, q, rfl, hq1, hq2, hst⟩ := hrel
              by_cases hq : 0 ≤ q
              · obtain ⟨k, rfl⟩ : ∃ k : Nat, q = (k : Int) := ⟨q.toNat, by omega⟩
                have hkn : k < n := by omega
                have hw : way (nds xs) (n - 1) = way (nds xs) k ++ t := by
                  rcases hst.out.2 with ⟨h, -⟩ | ⟨-, h⟩
                  · omega
                  · rw [Int.toNat_natCast] at h; exact h
                have d1 := fun o => (HAT.out k (by have := HN.out; omega) o).2
                have hpk := HPN.out k hkn
                have hkl : (k : Int) < (N : Int) := by have := HN.out; omega
                have hk0 : (0 : Int) ≤ (k : Int) := by omega
                by_cases hkp : k = p
                · have hf : r = true := by
                    rw [hrr.out]; refine decide_eq_true ?_
                    rw [hw, ← hkp]; exact List.mem_append_left _ (way_mem k)
                  have ge : ((k : Int) == (p : Int)) = true := by simp; omega
                  clear hkp hpk hw hst
                  go_wp2_with fail
                  go_ret
                  exact ⟨rfl, (Only.refl _ _).alloc _⟩
                · have ge : ((k : Int) == (p : Int)) = false := by simp; omega
                  have hpar : np (nds xs) k < k ∧ -1 ≤ np (nds xs) k := by
                    rcases Nat.eq_zero_or_pos k with e | e
                    · have := hpk.1 e; omega
                    · have := hpk.2 e; omega
                  have HNEW : Hid (p ∉ k :: t ∧ ((np (nds xs) k = -1 ∧ way (nds xs) (n - 1) = k :: t) ∨ (0 ≤ np (nds xs) k ∧ way (nds xs) (n - 1) = way (nds xs) (np (nds xs) k).toNat ++ (k :: t)))) := by
                    refine ⟨?_, ?_⟩
                    · rw [List.mem_cons]; rintro (h | h)
                      · exact hkp h.symm
                      · exact hst.out.1 h
                    · rcases Nat.eq_zero_or_pos k with e | e
                      · subst e
                        rw [way_zero HPN.out (by omega)] at hw
                        exact .inl ⟨hpk.1 rfl, by rw [hw]; rfl⟩
                      · have h1 := hpk.2 e
                        rw [way_pos HPN.out (by omega) e] at hw
                        exact .inr ⟨by omega, by rw [hw]; simp⟩
                  obtain ⟨z, hz⟩ : ∃ z, np (nds xs) k = z := ⟨_, rfl⟩
                  rw [hz] at d1 hpar HNEW
                  have hpar1 := hpar.1
                  have hpar2 := hpar.2
                  clear hkp hpk hw hst hpar hz
                  go_wp2_with fail
                  go_round
                  case rel => exact ⟨k :: t, z, rfl, hpar2, by omega, HNEW.out.1, HNEW.out.2⟩
                  case measure => simp [RowKit.intOf]; omega
              · have e : q = -1 := by omega
                subst e
                have hf : r = false := by
                  rw [hrr.out]; refine decide_eq_false ?_
                  rcases hst.out.2 with ⟨-, h⟩ | ⟨h, -⟩
                  · rw [h]; exact hst.out.1
                  · omega
                clear hst
                go_wp2_with fail
                go_ret
                exact ⟨rfl, (Only.refl _ _).alloc _⟩
          · have g1 : (xn.kind == 2) = false := by simp [k3]
            have h3 : (xn.kind == 3) = false := by simp [k3]
            have h4 : (xn.kind == 4) = false := by simp [k3]
            have h5 : (xn.kind == 5) = true := by simp [k3]
            have g2 : (kp != 2) = true := by simp [kp2]
            have g3 : (kp != 3) = false := by simp [kp2]
            clear k3 kp2 hb
            go_enter Tryd.func31, Tryd.ntmps31
            go_wp2_with fail
            go_loop [7] (fun v => ∃ (t : List Nat) (q : Int), v = .int .i64 q ∧ -1 ≤ q ∧ q < n ∧ Hid (p ∉ t ∧ ((q = -1 ∧ way (nds xs) (n - 1) = t) ∨ (0 ≤ q ∧ way (nds xs) (n - 1) = way (nds xs) q.toNat ++ t)))) (fun v => (RowKit.intOf v + 1).toNat)
            case atStart => exact ⟨[], (n : Int) - 1, rfl, by omega, by omega, by simp, .inr ⟨by omega, by rw [show ((n : Int) - 1).toNat = n - 1 by omega]; simp⟩⟩
            case round =>
              obtain ⟨t, q, rfl, hq1, hq2, hst⟩ := hrel
              by_cases hq : 0 ≤ q
              · obtain ⟨k, rfl⟩ : ∃ k : Nat, q = (k : Int) := ⟨q.toNat, by omega⟩
                have hkn : k < n := by omega
                have hw : way (nds xs) (n - 1) = way (nds xs) k ++ t := by
                  rcases hst.out.2 with ⟨h, -⟩ | ⟨-, h⟩
                  · omega
                  · rw [Int.toNat_natCast] at h; exact h
                have d1 := fun o => (HAT.out k (by have := HN.out; omega) o).2
                have hpk := HPN.out k hkn
                have hkl : (k : Int) < (N : Int) := by have := HN.out; omega
                have hk0 : (0 : Int) ≤ (k : Int) := by omega
                by_cases hkp : k = p
                · have hf : r = true := by
                    rw [hrr.out]; refine decide_eq_true ?_
                    rw [hw, ← hkp]; exact List.mem_append_left _ (way_mem k)
                  have ge : ((k : Int) == (p : Int)) = true := by simp; omega
                  clear hkp hpk hw hst
                  go_wp2_with fail
                  go_ret
                  exact ⟨rfl, (Only.refl _ _).alloc _⟩
                · have ge : ((k : Int) == (p : Int)) = false := by simp; omega
                  have hpar : np (nds xs) k < k ∧ -1 ≤ np (nds xs) k := by
                    rcases Nat.eq_zero_or_pos k with e | e
                    · have := hpk.1 e; omega
                    · have := hpk.2 e; omega
                  have HNEW : Hid (p ∉ k :: t ∧ ((np (nds xs) k = -1 ∧ way (nds xs) (n - 1) = k :: t) ∨ (0 ≤ np (nds xs) k ∧ way (nds xs) (n - 1) = way (nds xs) (np (nds xs) k).toNat ++ (k :: t)))) := by
                    refine ⟨?_, ?_⟩
                    · rw [List.mem_cons]; rintro (h | h)
                      · exact hkp h.symm
                      · exact hst.out.1 h
                    · rcases Nat.eq_zero_or_pos k with e | e
                      · subst e
                        rw [way_zero HPN.out (by omega)] at hw
                        exact .inl ⟨hpk.1 rfl, by rw [hw]; rfl⟩
                      · have h1 := hpk.2 e
                        rw [way_pos HPN.out (by omega) e] at hw
                        exact .inr ⟨by omega, by rw [hw]; simp⟩
                  obtain ⟨z, hz⟩ : ∃ z, np (nds xs) k = z := ⟨_, rfl⟩
                  rw [hz] at d1 hpar HNEW
                  have hpar1 := hpar.1
                  have hpar2 := hpar.2
                  clear hkp hpk hw hst hpar hz
                  go_wp2_with fail
                  go_round
                  case rel => exact ⟨k :: t, z, rfl, hpar2, by omega, HNEW.out.1, HNEW.out.2⟩
                  case measure => simp [RowKit.intOf]; omega
              · have e : q = -1 := by omega
                subst e
                have hf : r = false := by
                  rw [hrr.out]; refine decide_eq_false ?_
                  rcases hst.out.2 with ⟨-, h⟩ | ⟨h, -⟩
                  · rw [h]; exact hst.out.1
                  · omega
                clear hst
                go_wp2_with fail
                go_ret
                exact ⟨rfl, (Only.refl _ _).alloc _⟩
        · have hf := Hb.out hb
          subst hf
          rcases k3 with k3 | k3 | k3
          · have g1 : (xn.kind == 2) = false := by simp [k3]
            have h3 : (xn.kind == 3) = true := by simp [k3]
            have g2 : (kp != 2) = true := by simp [kp2]
            have g3 : (kp != 3) = true := by simp [kp3]
            clear k3 kp2 kp3 hb
            go_enter Tryd.func31, Tryd.ntmps31
            go_wp2_with fail
            go_ret
            exact ⟨rfl, (Only.refl _ _).alloc _⟩
          · have g1 : (xn.kind == 2) = false := by simp [k3]
            have h3 : (xn.kind == 3) = false := by simp [k3]
            have h4 : (xn.kind == 4) = true := by simp [k3]
            have g2 : (kp != 2) = true := by simp [kp2]
            have g3 : (kp != 3) = true := by simp [kp3]
            clear k3 kp2 kp3 hb
            go_enter Tryd.func31, Tryd.ntmps31
            go_wp2_with fail
            go_ret
            exact ⟨rfl, (Only.refl _ _).alloc _⟩
          · have g1 : (xn.kind == 2) = false := by simp [k3]
            have h3 : (xn.kind == 3) = false := by simp [k3]
            have h4 : (xn.kind == 4) = false := by simp [k3]
            have h5 : (xn.kind == 5) = true := by simp [k3]
            have g2 : (kp != 2) = true := by simp [kp2]
            have g3 : (kp != 3) = true := by simp [kp3]
            clear k3 kp2 kp3 hb
            go_enter Tryd.func31, Tryd.ntmps31
            go_wp2_with fail
            go_ret
            exact ⟨rfl, (Only.refl _ _).alloc _⟩
        · have hf := Hb.out hb
          subst hf
          have g1 : (xn.kind == 2) = false := by simp [a2]
          have g2 : (xn.kind == 3) = false := by simp [a3]
          have g3 : (xn.kind == 4) = false := by simp [a4]
          have g4 : (xn.kind == 5) = false := by simp [a5]
          clear a2 a3 a4 a5 hb
          go_enter Tryd.func31, Tryd.ntmps31
          go_wp2_with fail
          go_ret
          exact ⟨rfl, (Only.refl _ _).alloc _⟩
end Go.Proofs.YtmlhibcbgdhadaaDoor
