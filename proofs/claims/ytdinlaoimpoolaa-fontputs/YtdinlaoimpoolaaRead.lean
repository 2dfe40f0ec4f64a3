/- take: a byte more. -/
import Derived.Test.YtdinlaoimpoolaaSettle2
namespace Go.Proofs.Ytdinlaoimpoolaa
open Go.RowKit

theorem sz_le (k : Nat) (hk : k ≤ 16) : 1 ≤ sz k ∧ sz k ≤ 4 := by
  have hc : k = 0 ∨ k = 1 ∨ k = 2 ∨ k = 3 ∨ k = 4 ∨ k = 5 ∨ k = 6 ∨ k = 7 ∨ k = 8 ∨ k = 9 ∨ k = 10 ∨ k = 11 ∨ k = 12 ∨ k = 13 ∨ k = 14 ∨ k = 15 ∨ k = 16 := by omega
  rcases hc with rfl | rfl | rfl | rfl | rfl | rfl | rfl | rfl | rfl | rfl | rfl | rfl | rfl | rfl | rfl | rfl | rfl <;> decide
theorem Num.small {s : St} (N : Num s) (h : s.nx ≤ 16) : s.bs ≤ 3 ∧ s.nu < 16777216 := by
  have h1 := (sz_le s.nx h).2
  have h2 := N.b
  have h3 : s.bs ≤ 3 := by omega
  exact ⟨h3, Nat.lt_of_lt_of_le N.nu (Nat.pow_le_pow_right (by decide) h3)⟩
theorem Good.one {s : St} (G : Good s) (c : Nat) : Good (one s c) := by
  obtain ⟨a1, a2, a3, a4, a5, a6, a7, a8, a9, b1, b2, b3, b4, b5, b6, b7, b8, b9, c1, c2, c3⟩ := G
  refine ⟨a1, ?_, a3, a4, a5, a6, a7, a8, a9, b1, b2, b3, b4, b5, b6, b7, b8, b9, c1, c2, c3⟩
  show (if s.nx = 15 then s.sm else wit s.sm c) < 4294967296
  split
  · exact a2
  · exact wit_lt _ _
/-- what take leaves -/
def Took (h r : Nat) (s : St) (c : Nat) (W : World) (e : Ending) (w' : World) : Prop :=
  (match tk s c with
    | none => e = .returned (.int .i64 (bad s))
    | some s' => e = .returned (.int .i64 0) ∧ ∃ bp gv pv tv, Rd h bp w' r s' gv pv tv (10 ≤ s'.nx)) ∧ Below h W w'
theorem after_put (s : St) (n : Nat) : (put s n).nx = s.nx := by
  unfold put
  split <;> rfl
theorem ten_after {s : St} (h : s.nx ≤ 16) : 9 ≤ s.nx ↔ 10 ≤ after s := by
  have hc : s.nx = 0 ∨ s.nx = 1 ∨ s.nx = 2 ∨ s.nx = 3 ∨ s.nx = 4 ∨ s.nx = 5 ∨ s.nx = 6 ∨ s.nx = 7 ∨ s.nx = 8 ∨ s.nx = 9 ∨ s.nx = 10 ∨ s.nx = 11 ∨ s.nx = 12 ∨ s.nx = 13 ∨ s.nx = 14 ∨ s.nx = 15 ∨ s.nx = 16 := by omega
  unfold after
  rcases hc with e | e | e | e | e | e | e | e | e | e | e | e | e | e | e | e | e <;> rw [e] <;> simp only [] <;> (try split) <;> omega

set_option maxRecDepth 100000 in
set_option maxHeartbeats 8000000 in
theorem take_byte (h bp r : Nat) (s : St) (gv pv tv : Value) (c : Nat) (W : World) (R : Rd h bp W r s gv pv tv (10 ≤ s.nx)) (G : Good s) (N : Num s) (hc : c < 256) :
    Calls Try.prog 34 #[.pointer (some ⟨r, 0, none⟩), .int .u8 c] W (Took h r s c W) := by
  obtain ⟨hb3, hnu⟩ := N.small G.n16
  obtain ⟨hs1, hs4⟩ := sz_le s.nx G.n16
  have HR1 : Hid (Rd h bp ((W.setCell ⟨r, 1, none⟩ (.int .i64 ((s.nu : Int) * 256 + (c : Int)))).setCell ⟨r, 2, none⟩ (.int .i64 ((s.bs : Int) + 1))) r { s with nu := s.nu * 256 + c, bs := s.bs + 1 } gv pv tv (10 ≤ s.nx)) := hid
    ((R.cell { s with nu := s.nu * 256 + c } 1 (.int .i64 ((s.nu : Int) * 256 + (c : Int))) rfl rfl rfl rfl).cell { s with nu := s.nu * 256 + c, bs := s.bs + 1 } 2 (.int .i64 ((s.bs : Int) + 1)) rfl rfl rfl rfl)
  have HB1 : Hid (Below h W ((W.setCell ⟨r, 1, none⟩ (.int .i64 ((s.nu : Int) * 256 + (c : Int)))).setCell ⟨r, 2, none⟩ (.int .i64 ((s.bs : Int) + 1)))) := hid (((Below.refl h W).setCell (p := ⟨r, 1, none⟩) R.rh _).setCell (p := ⟨r, 2, none⟩) R.rh _)
  have c0 : W.cell? ⟨r, 0, none⟩ = some (.int .i64 s.nx) := R.blk.cell 0
  have c1 : W.cell? ⟨r, 1, none⟩ = some (.int .i64 s.nu) := R.blk.cell 1
  have c2 : W.cell? ⟨r, 2, none⟩ = some (.int .i64 s.bs) := R.blk.cell 2
  have c3 : W.cell? ⟨r, 3, none⟩ = some (.int .u32 s.sm) := R.blk.cell 3
  have f1 := R.blk.froz 1
  have f2 := R.blk.froz 2
  have hor := or_i64 s.nu c hnu hc
  have hn1 : (s.nu : Int) ≤ 16777215 := by omega
  have hb1 : (s.bs : Int) ≤ 3 := by omega
  have hci : (c : Int) ≤ 255 := by omega
  have HN : Hid (s.nu < 16777216 ∧ s.bs ≤ 3 ∧ c < 256) := hid ⟨hnu, hb3, hc⟩
  have HG := hid G
  have HNum := hid N
  clear R G N hnu hb3 hc hs1 hs4
  by_cases h15 : s.nx = 15
  · have e15 : ((s.nx : Int) != 15) = false := by simp; omega
    have HE : Hid (one s c = { s with nu := s.nu * 256 + c, bs := s.bs + 1 }) := hid (by unfold one; rw [if_pos h15])
    clear h15
    go_enter Try.func34, Try.ntmps34
    go_wp2_with fail
    obtain ⟨W1, hW1⟩ : ∃ W1, (W.setCell ⟨r, 1, none⟩ (.int .i64 ((s.nu : Int) * 256 + (c : Int)))).setCell ⟨r, 2, none⟩ (.int .i64 ((s.bs : Int) + 1)) = W1 := ⟨_, rfl⟩
    have HRX := hid HR1.out
    have HBX := hid HB1.out
    rw [hW1] at HRX HBX ⊢
    clear hW1
    have HQ1 : Hid (Rd h bp W1 r (one s c) gv pv tv (10 ≤ s.nx)) := hid (by rw [HE.out]; exact HRX.out)
    clear HE HRX HR1 HB1 c0 c1 c2 c3 f1 f2
    have x0 : ∀ d os, (behind W1 d os).cell? ⟨r, 0, none⟩ = some (.int .i64 s.nx) := fun d os => (HQ1.out.below (below_behind W1 d os)).blk.cell 0
    have x2 : ∀ d os, (behind W1 d os).cell? ⟨r, 2, none⟩ = some (.int .i64 ((s.bs : Int) + 1)) := fun d os => (HQ1.out.below (below_behind W1 d os)).blk.cell 2
    have HSZ : Hid (∀ X, Calls Try.prog 56 #[.int .i64 s.nx] X fun e w' => e = .returned (.int .i64 (sz s.nx)) ∧ Below X.heap.size X w') := hid fun X => (size_any s.nx HG.out.n16 X).mono fun e w' k => ⟨k.1, by rw [k.2]; exact Below.refl _ _⟩
    have mf : Try.prog.follows .mixedOrders = true := by kernel_rfl
    have HWY := hid (below_behind W1)
    have HZ : Hid (1 ≤ sz s.nx ∧ sz s.nx ≤ 4) := hid (sz_le s.nx HG.out.n16)
    refine wp_region_behind (by assumption) (by kernel_rfl) ?_
    repeat (go_big_quiet_step ((first | (go_at_call 56; refine Calls.behind_of (HSZ.out _)))))
    refine wpQuiet_nil ?_
    intro _ hw'
    obtain ⟨⟨dq, osq⟩, hw''⟩ := hw'
    subst hw''
    have HQ2 : Hid (Rd h bp (behind W1 dq osq) r (one s c) gv pv tv (10 ≤ s.nx)) := hid (HQ1.out.below (HWY.out _ _))
    have HB2 : Hid (Below h W (behind W1 dq osq)) := hid (HBX.out.trans ((HWY.out _ _).mono (by have := HQ1.out.hb; omega)))
    obtain ⟨W2, hW2⟩ : ∃ W2, behind W1 dq osq = W2 := ⟨_, rfl⟩
    rw [hW2] at HQ2 HB2
    simp only [hW2]
    clear hW2 x0 x2 HSZ HWY HQ1 HBX
    by_cases hlt : s.bs + 1 < sz s.nx
    · have HT : Hid (tk s c = some (one s c)) := hid (by unfold tk; rw [if_pos hlt])
      have d1 : (s.bs : Int) + 1 < (sz s.nx : Int) := by omega
      clear hlt
      go_wp2_with fail
      go_ret
      unfold Took
      rw [HT.out]
      exact ⟨⟨rfl, _, _, _, _, HQ2.out⟩, HB2.out⟩
    · have HT : Hid (tk s c = if fits (one s c) (one s c).nu = true then some (nxt (one s c)) else none) := hid (by unfold tk; rw [if_neg hlt])
      have d1 : ¬ (s.bs : Int) + 1 < (sz s.nx : Int) := by omega
      have hn : (one s c).nu < 256 ^ sz (one s c).nx := by
        have e : sz s.nx = s.bs + 1 := by have := HNum.out.b; omega
        show s.nu * 256 + c < 256 ^ sz s.nx
        rw [e, Nat.pow_succ]
        have := HNum.out.nu
        have := HN.out.2.2
        omega
      have HS := hid (settle_any h bp r (one s c) gv pv tv (one s c).nu W2 HQ2.out (HG.out.one c) hn)
      have k1 : W2.cell? ⟨r, 1, none⟩ = some (.int .i64 (one s c).nu) := HQ2.out.blk.cell 1
      clear hlt hn
      go_wp2_with fail
      refine HS.out.mono ?_
      rintro e w3 ⟨rfl, hR3, hB3⟩
      have HB3 := hid (HB2.out.trans hB3)
      obtain ⟨bp', gv', pv', tv', hR3⟩ := hR3
      have HR3 := hid hR3
      clear hR3 hB3 k1 d1 HS
      cases hf : fits (one s c) (one s c).nu with
      | false =>
        rw [hf] at HT
        simp only [Bool.false_eq_true, if_false]
        have hbd : ((bad (one s c)) != 0) = true := by unfold bad; split <;> rfl
        clear hf
        go_wp2_with fail
        go_ret
        unfold Took
        rw [HT.out]
        exact ⟨rfl, HB3.out⟩
      | true =>
        rw [hf] at HT
        simp only [if_true]
        have HA := hid (after_any h bp' r (put (one s c) (one s c).nu) gv' pv' tv' _ w3 HR3.out (by rw [after_put]; exact HG.out.n16))
        clear hf
        go_wp2_with fail
        refine HA.out.mono ?_
        rintro e w4 ⟨rfl, hb4⟩
        have HR4 := hid (HR3.out.below hb4)
        have HB4 := hid (HB3.out.trans (hb4.mono (by have := HR3.out.hb; omega)))
        have e0 : w4.cell? ⟨r, 0, none⟩ = some (.int .i64 (put (one s c) (one s c).nu).nx) := HR4.out.blk.cell 0
        have e1 : w4.cell? ⟨r, 1, none⟩ = some (.int .i64 (put (one s c) (one s c).nu).nu) := HR4.out.blk.cell 1
        have e2 : w4.cell? ⟨r, 2, none⟩ = some (.int .i64 (put (one s c) (one s c).nu).bs) := HR4.out.blk.cell 2
        have g0 := HR4.out.blk.froz 0
        have g1 := HR4.out.blk.froz 1
        have g2 := HR4.out.blk.froz 2
        have HR5 : Hid (Rd h bp' (((w4.setCell ⟨r, 0, none⟩ (.int .i64 (after (put (one s c) (one s c).nu)))).setCell ⟨r, 1, none⟩ (.int .i64 0)).setCell ⟨r, 2, none⟩ (.int .i64 0)) r (nxt (one s c)) gv' pv' tv' (9 ≤ (one s c).nx)) := hid
          (((HR4.out.cell { put (one s c) (one s c).nu with nx := after (put (one s c) (one s c).nu) } 0 (.int .i64 (after (put (one s c) (one s c).nu))) rfl rfl rfl rfl).cell { put (one s c) (one s c).nu with nx := after (put (one s c) (one s c).nu), nu := 0 } 1 (.int .i64 0) rfl rfl rfl rfl).cell (nxt (one s c)) 2 (.int .i64 0) rfl rfl rfl rfl)
        have HB5 : Hid (Below h W (((w4.setCell ⟨r, 0, none⟩ (.int .i64 (after (put (one s c) (one s c).nu)))).setCell ⟨r, 1, none⟩ (.int .i64 0)).setCell ⟨r, 2, none⟩ (.int .i64 0))) := hid (((HB4.out.setCell (p := ⟨r, 0, none⟩) HR4.out.rh _).setCell (p := ⟨r, 1, none⟩) HR4.out.rh _).setCell (p := ⟨r, 2, none⟩) HR4.out.rh _)
        clear hb4 HA
        go_wp2_with fail
        go_ret
        unfold Took
        rw [HT.out]
        refine ⟨⟨rfl, _, _, _, _, HR5.out.iff ?_⟩, HB5.out⟩
        show 9 ≤ (one s c).nx ↔ 10 ≤ after (put (one s c) (one s c).nu)
        rw [← after_put (one s c) (one s c).nu]
        exact ten_after (by rw [after_put]; exact HG.out.n16)
  · have e15 : ((s.nx : Int) != 15) = true := by simp; omega
    have HE : Hid (one s c = { s with nu := s.nu * 256 + c, bs := s.bs + 1, sm := wit s.sm c }) := hid (by unfold one; rw [if_neg h15])
    have HR2 : Hid (Rd h bp (((W.setCell ⟨r, 1, none⟩ (.int .i64 ((s.nu : Int) * 256 + (c : Int)))).setCell ⟨r, 2, none⟩ (.int .i64 ((s.bs : Int) + 1))).setCell ⟨r, 3, none⟩ (.int .u32 (wit s.sm c))) r { s with nu := s.nu * 256 + c, bs := s.bs + 1, sm := wit s.sm c } gv pv tv (10 ≤ s.nx)) := hid
      (HR1.out.cell { s with nu := s.nu * 256 + c, bs := s.bs + 1, sm := wit s.sm c } 3 (.int .u32 (wit s.sm c)) rfl rfl rfl rfl)
    have f3 := HR1.out.blk.froz 3
    have HW := hid (with_any s.sm c HG.out.sm HN.out.2.2)
    clear h15
    go_enter Try.func34, Try.ntmps34
    go_wp2_with (go_at_call 55; refine (HW.out _).mono ?_; rintro e w' ⟨rfl, rfl⟩)
    obtain ⟨W1, hW1⟩ : ∃ W1, ((W.setCell ⟨r, 1, none⟩ (.int .i64 ((s.nu : Int) * 256 + (c : Int)))).setCell ⟨r, 2, none⟩ (.int .i64 ((s.bs : Int) + 1))).setCell ⟨r, 3, none⟩ (.int .u32 (wit s.sm c)) = W1 := ⟨_, rfl⟩
    have HRX := hid HR2.out
    have HBX : Hid (Below h W (((W.setCell ⟨r, 1, none⟩ (.int .i64 ((s.nu : Int) * 256 + (c : Int)))).setCell ⟨r, 2, none⟩ (.int .i64 ((s.bs : Int) + 1))).setCell ⟨r, 3, none⟩ (.int .u32 (wit s.sm c)))) := hid (HB1.out.setCell (p := ⟨r, 3, none⟩) HR1.out.rh _)
    rw [hW1] at HRX HBX ⊢
    clear hW1 HR2
    have HQ1 : Hid (Rd h bp W1 r (one s c) gv pv tv (10 ≤ s.nx)) := hid (by rw [HE.out]; exact HRX.out)
    clear HE HRX HR1 HB1 c0 c1 c2 c3 f1 f2
    have x0 : ∀ d os, (behind W1 d os).cell? ⟨r, 0, none⟩ = some (.int .i64 s.nx) := fun d os => (HQ1.out.below (below_behind W1 d os)).blk.cell 0
    have x2 : ∀ d os, (behind W1 d os).cell? ⟨r, 2, none⟩ = some (.int .i64 ((s.bs : Int) + 1)) := fun d os => (HQ1.out.below (below_behind W1 d os)).blk.cell 2
    have HSZ : Hid (∀ X, Calls Try.prog 56 #[.int .i64 s.nx] X fun e w' => e = .returned (.int .i64 (sz s.nx)) ∧ Below X.heap.size X w') := hid fun X => (size_any s.nx HG.out.n16 X).mono fun e w' k => ⟨k.1, by rw [k.2]; exact Below.refl _ _⟩
    have mf : Try.prog.follows .mixedOrders = true := by kernel_rfl
    have HWY := hid (below_behind W1)
    have HZ : Hid (1 ≤ sz s.nx ∧ sz s.nx ≤ 4) := hid (sz_le s.nx HG.out.n16)
    refine wp_region_behind (by assumption) (by kernel_rfl) ?_
    repeat (go_big_quiet_step ((first | (go_at_call 56; refine Calls.behind_of (HSZ.out _)))))
    refine wpQuiet_nil ?_
    intro _ hw'
    obtain ⟨⟨dq, osq⟩, hw''⟩ := hw'
    subst hw''
    have HQ2 : Hid (Rd h bp (behind W1 dq osq) r (one s c) gv pv tv (10 ≤ s.nx)) := hid (HQ1.out.below (HWY.out _ _))
    have HB2 : Hid (Below h W (behind W1 dq osq)) := hid (HBX.out.trans ((HWY.out _ _).mono (by have := HQ1.out.hb; omega)))
    obtain ⟨W2, hW2⟩ : ∃ W2, behind W1 dq osq = W2 := ⟨_, rfl⟩
    rw [hW2] at HQ2 HB2
    simp only [hW2]
    clear hW2 x0 x2 HSZ HWY HQ1 HBX
    by_cases hlt : s.bs + 1 < sz s.nx
    · have HT : Hid (tk s c = some (one s c)) := hid (by unfold tk; rw [if_pos hlt])
      have d1 : (s.bs : Int) + 1 < (sz s.nx : Int) := by omega
      clear hlt
      go_wp2_with fail
      go_ret
      unfold Took
      rw [HT.out]
      exact ⟨⟨rfl, _, _, _, _, HQ2.out⟩, HB2.out⟩
    · have HT : Hid (tk s c = if fits (one s c) (one s c).nu = true then some (nxt (one s c)) else none) := hid (by unfold tk; rw [if_neg hlt])
      have d1 : ¬ (s.bs : Int) + 1 < (sz s.nx : Int) := by omega
      have hn : (one s c).nu < 256 ^ sz (one s c).nx := by
        have e : sz s.nx = s.bs + 1 := by have := HNum.out.b; omega
        show s.nu * 256 + c < 256 ^ sz s.nx
        rw [e, Nat.pow_succ]
        have := HNum.out.nu
        have := HN.out.2.2
        omega
      have HS := hid (settle_any h bp r (one s c) gv pv tv (one s c).nu W2 HQ2.out (HG.out.one c) hn)
      have k1 : W2.cell? ⟨r, 1, none⟩ = some (.int .i64 (one s c).nu) := HQ2.out.blk.cell 1
      clear hlt hn
      go_wp2_with fail
      refine HS.out.mono ?_
      rintro e w3 ⟨rfl, hR3, hB3⟩
      have HB3 := hid (HB2.out.trans hB3)
      obtain ⟨bp', gv', pv', tv', hR3⟩ := hR3
      have HR3 := hid hR3
      clear hR3 hB3 k1 d1 HS
      cases hf : fits (one s c) (one s c).nu with
      | false =>
        rw [hf] at HT
        simp only [Bool.false_eq_true, if_false]
        have hbd : ((bad (one s c)) != 0) = true := by unfold bad; split <;> rfl
        clear hf
        go_wp2_with fail
        go_ret
        unfold Took
        rw [HT.out]
        exact ⟨rfl, HB3.out⟩
      | true =>
        rw [hf] at HT
        simp only [if_true]
        have HA := hid (after_any h bp' r (put (one s c) (one s c).nu) gv' pv' tv' _ w3 HR3.out (by rw [after_put]; exact HG.out.n16))
        clear hf
        go_wp2_with fail
        refine HA.out.mono ?_
        rintro e w4 ⟨rfl, hb4⟩
        have HR4 := hid (HR3.out.below hb4)
        have HB4 := hid (HB3.out.trans (hb4.mono (by have := HR3.out.hb; omega)))
        have e0 : w4.cell? ⟨r, 0, none⟩ = some (.int .i64 (put (one s c) (one s c).nu).nx) := HR4.out.blk.cell 0
        have e1 : w4.cell? ⟨r, 1, none⟩ = some (.int .i64 (put (one s c) (one s c).nu).nu) := HR4.out.blk.cell 1
        have e2 : w4.cell? ⟨r, 2, none⟩ = some (.int .i64 (put (one s c) (one s c).nu).bs) := HR4.out.blk.cell 2
        have g0 := HR4.out.blk.froz 0
        have g1 := HR4.out.blk.froz 1
        have g2 := HR4.out.blk.froz 2
        have HR5 : Hid (Rd h bp' (((w4.setCell ⟨r, 0, none⟩ (.int .i64 (after (put (one s c) (one s c).nu)))).setCell ⟨r, 1, none⟩ (.int .i64 0)).setCell ⟨r, 2, none⟩ (.int .i64 0)) r (nxt (one s c)) gv' pv' tv' (9 ≤ (one s c).nx)) := hid
          (((HR4.out.cell { put (one s c) (one s c).nu with nx := after (put (one s c) (one s c).nu) } 0 (.int .i64 (after (put (one s c) (one s c).nu))) rfl rfl rfl rfl).cell { put (one s c) (one s c).nu with nx := after (put (one s c) (one s c).nu), nu := 0 } 1 (.int .i64 0) rfl rfl rfl rfl).cell (nxt (one s c)) 2 (.int .i64 0) rfl rfl rfl rfl)
        have HB5 : Hid (Below h W (((w4.setCell ⟨r, 0, none⟩ (.int .i64 (after (put (one s c) (one s c).nu)))).setCell ⟨r, 1, none⟩ (.int .i64 0)).setCell ⟨r, 2, none⟩ (.int .i64 0))) := hid (((HB4.out.setCell (p := ⟨r, 0, none⟩) HR4.out.rh _).setCell (p := ⟨r, 1, none⟩) HR4.out.rh _).setCell (p := ⟨r, 2, none⟩) HR4.out.rh _)
        clear hb4 HA
        go_wp2_with fail
        go_ret
        unfold Took
        rw [HT.out]
        refine ⟨⟨rfl, _, _, _, _, HR5.out.iff ?_⟩, HB5.out⟩
        show 9 ≤ (one s c).nx ↔ 10 ≤ after (put (one s c) (one s c).nu)
        rw [← after_put (one s c) (one s c).nu]
        exact ten_after (by rw [after_put]; exact HG.out.n16)
end Go.Proofs.Ytdinlaoimpoolaa
