/- The reference's questions on a node's place. -/
import Derived.Test.YtmlhibcbgdhadaaDoorPrn
namespace Go.Proofs.YtmlhibcbgdhadaaDoor
open Go.RowKit

theorem filt_cons (f : Nat → Bool) (k : Nat) (t : List Nat) : ((k :: t).filter f).length = (if f k then 1 else 0) + (t.filter f).length := by
  rw [List.filter_cons]
  split
  · simp; omega
  · simp
set_option maxRecDepth 100000 in
set_option maxHeartbeats 4000000 in
theorem deep_c {xs : List (Nd × Value)} {ad : Option Addr} {cap C n : Nat} (hp : PN (nds xs) (n + 1)) (hn : n < xs.length) (hlen : xs.length ≤ 4294967296) (w : World) (hNL : NL w C ad xs) :
    Calls Tryd.prog 32 #[.slice ad xs.length cap, .int .i64 n] w fun e w' => e = .returned (.int .i64 (deepN (nds xs) n)) ∧ w' = w := by
  have HNL := hid hNL
  have HP := hid hp
  obtain ⟨N, hN⟩ : ∃ N, xs.length = N := ⟨_, rfl⟩
  have HN := hid hN
  have hn2 : (n : Int) ≤ 4294967296 := by omega
  rw [hN] at hn hlen ⊢
  clear hNL hp hN
  go_enter Tryd.func32, Tryd.ntmps32
  go_wp2_with fail
  go_loop [5, 6] (fun m v => ∃ (t : List Nat) (c : Nat) (q : Int), m = .int .i64 c ∧ v = .int .i64 q ∧ -1 ≤ q ∧ q ≤ n ∧ Hid (c = (t.filter fun k => nk (nds xs) k != 4).length ∧ t.length ≤ n + 1 ∧ ((q = -1 ∧ way (nds xs) n = t) ∨ (0 ≤ q ∧ way (nds xs) n = way (nds xs) q.toNat ++ t)))) (fun _ v => (RowKit.intOf v + 1).toNat)
  case atStart => exact ⟨[], 0, n, rfl, rfl, by omega, by omega, rfl, by simp, .inr ⟨by omega, by simp⟩⟩
  case round =>
    obtain ⟨t, c, q, rfl, rfl, hq1, hq2, hst⟩ := hrel
    have hcl : c ≤ n + 1 := by
      rw [hst.out.1]; have := List.length_filter_le (fun k => nk (nds xs) k != 4) t; have := hst.out.2.1; omega
    by_cases hq : 0 ≤ q
    · obtain ⟨k, rfl⟩ : ∃ k : Nat, q = (k : Int) := ⟨q.toNat, by omega⟩
      have hkn : k ≤ n := by omega
      have hw : way (nds xs) n = way (nds xs) k ++ t := by
        rcases hst.out.2.2 with ⟨h, -⟩ | ⟨-, h⟩
        · omega
        · rw [Int.toNat_natCast] at h; exact h
      obtain ⟨x, hx⟩ := some_at (xs := xs) (i := k) (by rw [HN.out]; omega)
      obtain ⟨b, off, rfl, -, hbw, hc⟩ := HNL.out.at_ hx
      have c0 := hc 0 _ rfl
      have c1 := hc 1 _ rfl
      simp only [Nat.add_zero] at c0
      have hpk := HP.out k (by omega)
      have hnp : np (nds xs) k = x.1.par := np_of (nds_get hx)
      have hnk : nk (nds xs) k = x.1.kind := nk_of (nds_get hx)
      have HNK := hid hnk
      have hpar : x.1.par < k ∧ -1 ≤ x.1.par := by
        rw [← hnp]
        rcases Nat.eq_zero_or_pos k with e | e
        · have := hpk.1 e; omega
        · have := hpk.2 e; omega
      have hlen2 := way_len HP.out n (by omega)
      have HNEW : Hid ((k :: t).length ≤ n + 1 ∧ ((x.1.par = -1 ∧ way (nds xs) n = k :: t) ∨ (0 ≤ x.1.par ∧ way (nds xs) n = way (nds xs) x.1.par.toNat ++ (k :: t)))) := by
        have key : ((x.1.par = -1 ∧ way (nds xs) n = k :: t) ∨ (0 ≤ x.1.par ∧ way (nds xs) n = way (nds xs) x.1.par.toNat ++ (k :: t))) := by
          rcases Nat.eq_zero_or_pos k with e | e
          · subst e
            rw [way_zero HP.out (by omega)] at hw
            exact .inl ⟨by rw [← hnp]; exact hpk.1 rfl, by rw [hw]; rfl⟩
          · have h1 := hpk.2 e
            rw [way_pos HP.out (by omega) e, hnp] at hw
            exact .inr ⟨by omega, by rw [hw]; simp⟩
        refine ⟨?_, key⟩
        rcases key with ⟨-, h⟩ | ⟨-, h⟩
        · rw [← h]; exact hlen2
        · rw [h, List.length_append] at hlen2; omega
      have hkl : (k : Int) < (N : Int) := by omega
      have hk0 : (0 : Int) ≤ (k : Int) := by omega
      have hpar1 := hpar.1
      have hpar2 := hpar.2
      have HCC := hid hst.out.1
      by_cases h4 : x.1.kind = 4
      · have h4t : (x.1.kind != 4) = false := by simp [h4]
        have HF : Hid (c = ((k :: t).filter fun k => nk (nds xs) k != 4).length) := by
          show _ = _
          rw [filt_cons, HNK.out, h4t, HCC.out]; simp
        clear hx hc hpk hnp hpar hw hst h4 hlen2 hnk hcl
        go_wp2_with fail
        go_round
        case rel => exact ⟨k :: t, c, x.1.par, rfl, rfl, hpar2, by omega, HF.out, HNEW.out.1, HNEW.out.2⟩
        case measure => simp [RowKit.intOf]; omega
      · have h4t : (x.1.kind != 4) = true := by simp [h4]
        have HF : Hid (c + 1 = ((k :: t).filter fun k => nk (nds xs) k != 4).length) := by
          show _ = _
          rw [filt_cons, HNK.out, h4t, HCC.out]; simp; omega
        have hci : (c : Int) ≤ 4294967297 := by omega
        clear hx hc hpk hnp hpar hw hst h4 hlen2 hnk hcl
        go_wp2_with fail
        go_round
        case rel => exact ⟨k :: t, c + 1, x.1.par, by go_num, rfl, hpar2, by omega, HF.out, HNEW.out.1, HNEW.out.2⟩
        case measure => simp [RowKit.intOf]; omega
    · have e : q = -1 := by omega
      subst e
      have HF : Hid (c = deepN (nds xs) n) := by
        show _ = _
        unfold deepN
        rcases hst.out.2.2 with ⟨-, h⟩ | ⟨h, -⟩
        · rw [h]; exact hst.out.1
        · omega
      clear hst hcl
      go_wp2_with fail
      go_ret
      exact ⟨ret_int (by rw [HF.out]), rfl⟩
end Go.Proofs.YtmlhibcbgdhadaaDoor
