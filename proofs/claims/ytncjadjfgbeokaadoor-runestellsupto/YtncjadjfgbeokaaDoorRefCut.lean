/- The reference's Check and Cut. -/
import Derived.Test.YtncjadjfgbeokaaDoorRead
namespace Go.Proofs.YtncjadjfgbeokaaDoor
open Go.RowKit

/-- a slice of places -/
theorem row_places {W : World} {b : Nat} {v : Value} {n : Nat} {xs : List Value} (h : W.ownsRow b 28 2 v n xs) : ∃ base cap, v = .slice base n cap ∧ Rd W b base xs := by
  have hl := h.1
  obtain ⟨_, h⟩ := h
  rcases h with ⟨rfl, h0⟩ | ⟨g, cap, cur, rfl, hb, hg, hn, hc, hs, ht⟩
  · refine ⟨none, 0, by rw [h0], fun i u hu => ?_⟩
    have := (List.getElem?_eq_some_iff.1 hu).1
    omega
  · refine ⟨_, cap, rfl, fun i u hu => ⟨g, rfl, hb, (Array.getElem?_eq_some_iff.1 hg).1, ?_⟩⟩
    rw [← ht, List.getElem?_take] at hu
    split at hu
    · simp only [World.cell?, hg]
      simpa using hu
    · cases hu
theorem read_rd (s : ByteArray) (w : World) (hs : s.size ≤ 1099511627776) :
    Calls Tryd.prog 10 #[.string s] w fun e w' => ∃ base cap, e = .returned (.tuple #[.slice base (rs (bl s)).length cap, .int .i64 (atOf (chk (bl s))), .bool (isBad (chk (bl s)))]) ∧
      Rd w' w.heap.size base (flat (rs (bl s))) ∧ Below w.heap.size w w' := by
  refine (read_any s w hs).mono ?_
  rintro e w' ⟨v, rfl, hrow, hb⟩
  obtain ⟨base, cap, rfl, hrd⟩ := row_places hrow
  exact ⟨base, cap, rfl, hrd, hb⟩

set_option maxHeartbeats 4000000 in
theorem refCheck_any (s : ByteArray) (w : World) (hs : s.size ≤ 1099511627776) :
    Calls Tryd.prog 17 #[.string s] w fun e w' => e = .returned (.agg #[.int .i64 (kindOf (chk (bl s))), .int .i64 (atOf (chk (bl s)))]) ∧ Below w.heap.size w w' := by
  have HR := read_rd s (w.alloc (.cells #[.int .i64 0, .int .i64 0] 36)) hs
  obtain ⟨c, hc⟩ : ∃ c, chk (bl s) = c := ⟨_, rfl⟩
  rw [hc] at HR ⊢
  clear hc
  go_enter Tryd.func17, Tryd.ntmps17
  go_wp2_with fail
  refine (HR).mono ?_
  rintro e w1 ⟨base, cap, rfl, _, hb1⟩
  rw [World.size_alloc] at hb1
  have HB1 : Hid (Below (w.heap.size + 1) (w.alloc (.cells #[.int .i64 0, .int .i64 0] 36)) w1) := hb1
  have hbk : Blk w1 w.heap.size [.int .i64 0, .int .i64 0] 36 := (hb1.block _ (by omega)).trans (Blk.new w #[.int .i64 0, .int .i64 0] 36 rfl)
  have HK : Hid (Blk w1 w.heap.size [.int .i64 0, .int .i64 0] 36) := hbk
  have hc0 : w1.cell? ⟨w.heap.size, 0, none⟩ = some (.int .i64 0) := hbk.cell 0
  have hc1 : w1.cell? ⟨w.heap.size, 1, none⟩ = some (.int .i64 0) := hbk.cell 1
  have hf0 := hbk.froz 0
  have hf1 := hbk.froz 1
  clear hb1 hbk HR
  rcases c with _ | A
  · simp only [atOf, isBad]
    go_wp2_with fail
    have hbk2 := (HK.out.set 0 (.int .i64 0)).set 1 (.int .i64 0)
    have hd0 := hbk2.cell 0
    have hd1 := hbk2.cell 1
    simp only [List.set_cons_zero, List.set_cons_succ, List.getElem?_cons_zero, List.getElem?_cons_succ] at hd0 hd1
    refine bodyPost_ret (v := .agg #[.int .i64 0, .int .i64 0]) ?_ rfl ⟨rfl, ?_⟩
    · simp [results, Tryd.f17, go_sem, hd0, hd1]
    · exact ((((Below.refl _ w).alloc (Nat.le_refl _) _).trans (HB1.out.mono (by omega))).setCell (p := ⟨w.heap.size, 0, none⟩) (Nat.le_refl _) _).setCell (p := ⟨w.heap.size, 1, none⟩) (Nat.le_refl _) _
  · simp only [atOf, isBad]
    go_wp2_with fail
    have hbk2 := (HK.out.set 0 (.int .i64 40)).set 1 (.int .i64 (A : Int))
    have hd0 := hbk2.cell 0
    have hd1 := hbk2.cell 1
    simp only [List.set_cons_zero, List.set_cons_succ, List.getElem?_cons_zero, List.getElem?_cons_succ] at hd0 hd1
    refine bodyPost_ret (v := .agg #[.int .i64 40, .int .i64 (A : Int)]) ?_ rfl ⟨rfl, ?_⟩
    · simp [results, Tryd.f17, go_sem, hd0, hd1]
    · exact ((((Below.refl _ w).alloc (Nat.le_refl _) _).trans (HB1.out.mono (by omega))).setCell (p := ⟨w.heap.size, 0, none⟩) (Nat.le_refl _) _).setCell (p := ⟨w.heap.size, 1, none⟩) (Nat.le_refl _) _

set_option maxRecDepth 100000 in
set_option maxHeartbeats 8000000 in
theorem refCut_any (s : ByteArray) (n : Int) (w : World) (hs : s.size ≤ 1099511627776) (hn0 : -9223372036854775808 ≤ n) (hn1 : n ≤ 9223372036854775807) :
    Calls Tryd.prog 15 #[.string s, .int .i64 n] w fun e w' => e = .returned (.tuple #[.string (s.extract 0 (pos n.toNat (bl s))), .string (s.extract (pos n.toNat (bl s)) s.size)]) ∧ Below w.heap.size w w' := by
  have hR := rs_le s
  obtain ⟨R, hRe⟩ : ∃ R, (rs (bl s)).length = R := ⟨_, rfl⟩
  have HRE : Hid ((rs (bl s)).length = R) := hRe
  rw [hRe] at hR
  have HR := read_rd s w hs
  rw [hRe] at HR
  clear hRe
  have hRi : (R : Int) ≤ 1099511627776 := by omega
  go_enter Tryd.func15, Tryd.ntmps15
  go_wp2_with fail
  refine (HR).mono ?_
  rintro e w1 ⟨base, cap, rfl, hrd, hb1⟩
  have HB1 : Hid (Below w.heap.size w w1) := hb1
  have HRD : Hid (Rd w1 w.heap.size base (flat (rs (bl s)))) := hrd
  clear hrd hb1 HR
  go_wp2_with fail
  go_loopw [9, 10] (fun a i wr => ∃ j : Nat, j ≤ R ∧ j ≤ n.toNat ∧ i = .int .i64 j ∧ a = .int .i64 (pos j (bl s)) ∧ Below w1.heap.size w1 wr) (fun _ i _ => R - (RowKit.intOf i).toNat)
  case atStart => exact ⟨0, by omega, by omega, rfl, rfl, Below.refl _ _⟩
  case round =>
    obtain ⟨j, hj1, hj2, rfl, rfl, hbl⟩ := hrel
    have HBL : Hid (Below w1.heap.size w1 wr) := hbl
    clear hbl
    have hple := pos_le j (bl s)
    rw [bl_length] at hple
    by_cases hlt : j < R ∧ (j : Int) < n
    · obtain ⟨hlt, hjn⟩ := hlt
      obtain ⟨h1, h2, h3, h4⟩ := step_at (l := bl s) (k := j) (by rw [HRE.out]; exact hlt)
      have hf := flat_even h3
      obtain ⟨g, e1, hg1, hg2, hc1⟩ := (HRD.out.of HBL.out) _ _ hf.1
      obtain ⟨g', e2, _, _, hc2⟩ := (HRD.out.of HBL.out) _ _ hf.2
      rw [e1] at e2
      cases e2
      subst e1
      have hw := widthI_rune (rune_width h2).2
      have hww := (rune_width h2).1
      have hrl := (rune_width h2).2.1
      have HW := refWidth_any (rune ((bl s).drop (pos j (bl s))) : Int)
      rw [hw, hww] at HW
      have HP : Hid (pos (j + 1) (bl s) = pos j (bl s) + wd ((bl s).drop (pos j (bl s)))) := h4
      have hw4 : wd ((bl s).drop (pos j (bl s))) ≤ 4 := wide_le _
      clear h1 h2 h3 h4 hf hw hww
      generalize rune ((bl s).drop (pos j (bl s))) = r at *
      generalize wd ((bl s).drop (pos j (bl s))) = wi at *
      generalize pos j (bl s) = p at *
      have hji : (j : Int) < (R : Int) := by omega
      have hj0 : (0 : Int) ≤ (j : Int) := by omega
      have hdR : decide ((j : Int) < (R : Int)) = true := decide_eq_true hji
      have hc1' : wr.cell? ⟨g, j * 2, none⟩ = some (.int .i64 (p : Int)) := by rw [Nat.mul_comm]; exact hc1
      have hc2' : wr.cell? ⟨g, j * 2 + 1, none⟩ = some (.int .i64 (r : Int)) := by rw [Nat.mul_comm]; exact hc2
      go_wp2_with fail
      go_quiet ((go_at_call 20; exact Calls.quiet_of_same (HW _)))
      clear hc1 hc2 hc1' hc2' HW
      go_wp2_with fail
      go_roundw
      case rel => exact ⟨j + 1, by omega, by omega, by go_num, by rw [HP.out]; go_num, below_drewN HBL.out _⟩
      case measure => simp [RowKit.intOf]; omega
    · have hend : pos j (bl s) = pos n.toNat (bl s) := by
        by_cases hjn : j = n.toNat
        · rw [hjn]
        · obtain rfl : j = R := by
            rcases Nat.lt_or_ge j R with h | h
            · exact absurd ⟨h, by omega⟩ hlt
            · omega
          rw [← HRE.out, (rl_own (bl s)).2]
          obtain ⟨q, hq⟩ : ∃ q, n.toNat = (rs (bl s)).length + q := ⟨n.toNat - (rs (bl s)).length, by rw [HRE.out]; omega⟩
          have := rl_stop (k := (rs (bl s)).length) (l := bl s) q 0 (by rw [(rl_own (bl s)).1]) (by rw [(rl_own (bl s)).2]; exact bad_end (bl s))
          rw [hq, this.2, (rl_own (bl s)).2]
      have HEN : Hid (pos j (bl s) = pos n.toNat (bl s)) := hend
      clear hend
      generalize pos j (bl s) = p at *
      have hp0 : (0 : Int) ≤ (p : Int) := by omega
      have hp1 : (p : Int) ≤ (s.size : Int) := by omega
      have hp2 : p ≤ s.size := hple
      by_cases hjR : (j : Int) < (R : Int)
      · have hjn : ¬ (j : Int) < n := fun h => hlt ⟨by omega, h⟩
        have hdR : decide ((j : Int) < (R : Int)) = true := decide_eq_true hjR
        have hdn : decide ((j : Int) < n) = false := decide_eq_false hjn
        go_wp2_with fail
        go_quiet (fail)
        go_wp2_with fail
        refine bodyPost_ret (v := .tuple #[.string (s.extract 0 p), .string (s.extract p s.size)]) (by simp [results, Tryd.f15, go_sem]) rfl ⟨?_, below_drewN (HB1.out.trans (HBL.out.mono HB1.out.size)) _⟩
        rw [HEN.out]
      · have hdR : decide ((j : Int) < (R : Int)) = false := decide_eq_false hjR
        go_wp2_with fail
        go_quiet (fail)
        go_wp2_with fail
        refine bodyPost_ret (v := .tuple #[.string (s.extract 0 p), .string (s.extract p s.size)]) (by simp [results, Tryd.f15, go_sem]) rfl ⟨?_, below_drewN (HB1.out.trans (HBL.out.mono HB1.out.size)) _⟩
        rw [HEN.out]
end Go.Proofs.YtncjadjfgbeokaaDoor
