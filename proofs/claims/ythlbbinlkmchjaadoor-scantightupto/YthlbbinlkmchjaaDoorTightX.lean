/- ScanTight's walk. -/
import Derived.Test.YthlbbinlkmchjaaDoorTightM
import Derived.BigQuiet
import Derived.Deep.Cut
import Derived.Deep.CutRange
namespace Go.Proofs.YthlbbinlkmchjaaDoor
open Go.RowKit

set_option maxRecDepth 100000 in
set_option maxHeartbeats 16000000 in
theorem tight_walk (s : ByteArray) (less : Int) (hs : s.size ≤ 1048576) (hl : -9223372036854775808 ≤ less ∧ less ≤ 9223372036854775807) (w : World) (hT : Tc w) :
    Calls Tryd.prog 4 #[.string s, .int .i64 less] w fun e w' => e = .returned (.bool true) ∧ Only [] w w' := by
  have HT := hid hT
  have h3 := hid hT.tb.size
  have HSH := hid (shown_c hT)
  have HS := hid hs
  clear hT
  go_enter Tryd.func4, Tryd.ntmps4
  go_wp2_with fail
  refine HSH.out.mono ?_
  rintro e w1 ⟨rfl, ho1⟩
  have HO1 := hid ho1
  clear ho1
  go_wp2_with fail
  refine (great_c w1).mono ?_
  rintro e w2 ⟨rfl, rfl⟩
  have HM := hid (Blk.new w1 gM.cells.toArray 68 rfl)
  have HO2 := hid (HO1.out.alloc (.cells gM.cells.toArray 68))
  have h3a : 3 ≤ w1.heap.size := Nat.le_trans h3.out HO1.out.size
  go_wp2_with fail
  refine (scanG_c HM.out (by omega) (HT.out.only HO2.out (by simp)) h3a).mono ?_
  rintro e w3 ⟨tv, xs, rfl, htl, hbm, ho3, htk⟩
  have HO3 : Hid (Only [] w w3) := hid (HO2.out.fresh ho3 (fun i hi hlt => by simp at hi; subst hi; have := HO1.out.size; omega))
  have hshort := tks_short (s := s) (by omega)
  obtain ⟨ad, cap, rfl, hsl⟩ := htl.sl
  have HTL := hid htl
  have HTK := hid htk
  have HBM := hid hbm
  clear htl hsl ho3 htk hbm
  obtain ⟨k, hk⟩ : ∃ k, (fl s).1 = k := ⟨_, rfl⟩
  obtain ⟨n, hn⟩ : ∃ n, (fl s).2 = n := ⟨_, rfl⟩
  have HK : Hid (fl s = (k, n)) := hid (by rw [← hk, ← hn])
  rw [hk, hn]
  clear hk hn
  have hgd := guard35
  have q1 := eqlF k n 0 0
  have q2 := neqF k n 0 0
  have q3 := neqF k n k n
  simp only [BEq.rfl, Bool.and_self, Bool.not_true] at q3
  obtain ⟨nx, hnx⟩ : ∃ nx, xs.length = nx := ⟨_, rfl⟩
  rw [hnx] at HTL ⊢
  have HNX := hid hnx
  clear hnx
  obtain ⟨E, hE⟩ : ∃ E, Et s = E := ⟨_, rfl⟩
  obtain ⟨C, hC⟩ : ∃ C, Ct s = C := ⟨_, rfl⟩
  have hEs : E ≤ 1048576 := by rw [← hE]; exact Nat.le_trans (Et_le s) hs
  have hCs : C ≤ 1048576 := by rw [← hC]; exact Nat.le_trans (Ct_le s) hs
  have hdn : (gA s).dn = (E : Int) := by rw [← hE]; rfl
  have hpk : (gA s).pk = (C : Int) := by rw [← hC]; rfl
  have HE := hid hE
  have HC := hid hC
  have HSTEPS := hid (fun W h => steps_any (gA s) w1.heap.size W h)
  have HPEAK := hid (fun W h => peak_any (gA s) w1.heap.size W h)
  rw [hdn] at HSTEPS
  rw [hpk] at HPEAK
  clear hdn hpk hE hC
  go_wp2_with fail
  have HB4 := hid (Blk.new w3 #[.int .i64 k, .int .i64 n] 35 rfl)
  have HO4 := hid (HO3.out.alloc (.cells #[.int .i64 k, .int .i64 n] 35))
  have HBM4 := hid (HBM.out.alloc (.cells #[.int .i64 k, .int .i64 n] 35))
  have HTL4 := hid (HTL.out.still ((Only.refl [] w3).alloc (.cells #[.int .i64 k, .int .i64 n] 35)))
  obtain ⟨f, hf⟩ : ∃ f, w3.heap.size = f := ⟨_, rfl⟩
  obtain ⟨W4, hW4⟩ : ∃ W4, w3.alloc (.cells #[.int .i64 k, .int .i64 n] 35) = W4 := ⟨_, rfl⟩
  rw [hW4] at HB4 HO4 HBM4 HTL4 ⊢
  rw [hf] at HB4 ⊢
  clear hW4 hf HBM HTL
  refine (HSTEPS.out W4 HBM4.out).mono ?_
  rintro e W4 ⟨rfl, rfl⟩
  go_wp2_with fail
  refine (HPEAK.out W4 HBM4.out).mono ?_
  rintro e W4 ⟨rfl, rfl⟩
  have g0 := HB4.out.cell 0
  have g1 := HB4.out.cell 1
  simp only [List.getElem?_cons_zero, List.getElem?_cons_succ] at g0 g1
  have hways : ((k == 0) && (n == 0)) = true ∧ E = s.size ∧ C = nx ∨ ((k == 0) && (n == 0)) = false ∧ nx = 0 ∧ ∃ nn : Nat, n = (nn : Int) ∧ nn ≤ s.size ∧ E = min s.size (nn + 1) := by
    rcases hh : (k == 0) && (n == 0) with _ | _
    · refine .inr ⟨rfl, ?_⟩
      obtain ⟨kk, nn, hgs, he, htks⟩ := gs_some (s := s) (by
        rw [HK.out]; intro e; obtain ⟨rfl, rfl⟩ := Prod.mk.inj e; simp at hh)
      have hnn := (G_ge ((rest s 0).length + 1) 0 0 (rest s 0)).1 kk nn hgs
      rw [rest_length] at hnn
      refine ⟨?_, nn, ?_, by omega, ?_⟩
      · have h1 := HTK.out
        rw [htks] at h1
        rw [← HNX.out]
        simpa using h1
      · rw [HK.out] at he; exact (Prod.mk.inj he).2
      · rw [← HE.out]
        unfold Et endS
        rw [hgs]
        simp only
        split <;> omega
    · refine .inl ⟨rfl, ?_, ?_⟩
      · obtain ⟨hgs, htks⟩ := gs_none (s := s) (by rw [HK.out]; simp at hh; rw [hh.1, hh.2])
        rw [← HE.out]; unfold Et; rw [hgs]; rfl
      · obtain ⟨hgs, htks⟩ := gs_none (s := s) (by rw [HK.out]; simp at hh; rw [hh.1, hh.2])
        have h1 := congrArg List.length HTK.out
        rw [htks, List.length_map, HNX.out] at h1
        rw [← HC.out]; exact h1.symm
  have HNEW := hid (fun W (a b : Nat) => new_yes (a : Int) (b : Int) W (by omega) (by omega))
  have HFIT := hid (fun W (mb : Nat) hm hT h3 => fit_c (W := W) (mb := mb) (s := s) hm (by omega) hT h3)
  have HLESS := hid (fun W (mb q : Nat) (hq : q < Et s) hm hT h3 => less_c (W := W) (mb := mb) (s := s) hq hm (by omega) hT h3)
  have HFEW := hid (fun W (mb q : Nat) (hq : q < Ct s) hm hT h3 => few_c (W := W) (mb := mb) (s := s) hq hm (by omega) hT h3)
  rw [HE.out, HC.out] at HLESS HFEW
  rw [HK.out] at HFIT
  rw [HE.out, HC.out] at HFIT
  simp only at HFIT
  have HLEN : Hid (nx ≤ 4294967296 ∧ ∀ x ∈ xs, x.1.ch.length ≤ 4294967296) := hid (by rw [← HNX.out]; exact short_of HTK.out hshort.1 hshort.2)
  clear hshort
  have hbound : w1.heap.size < W4.heap.size ∧ f < W4.heap.size := ⟨HBM4.out.lt, HB4.out.lt⟩
  have hw4 : w.heap.size ≤ W4.heap.size := HO4.out.size
  rcases hways with ⟨hb, hEs2, hCx⟩ | ⟨hb, hnx0, nn, hnn, hnl, hEm⟩
  · rw [hb] at q1 q2
    have hEI : (s.size : Int) = (E : Int) := by omega
    have hCI : (nx : Int) = (C : Int) := by omega
    clear hb hEs2 hCx
    go_wp2_with fail
    refine (HNEW.out W4 E C).mono ?_
    rintro e w6 ⟨rfl, rfl⟩
    have HN6 := hid (Blk.new W4 (M.cells ⟨(E : Int), (C : Int), 0, 0, 0, 0⟩).toArray 68 rfl)
    have HO6 := hid (HO4.out.alloc (.cells (M.cells ⟨(E : Int), (C : Int), 0, 0, 0, 0⟩).toArray 68))
    have HB6 := hid (HB4.out.alloc (.cells (M.cells ⟨(E : Int), (C : Int), 0, 0, 0, 0⟩).toArray 68))
    have HTL6 := hid (HTL4.out.still ((Only.refl [] W4).alloc (.cells (M.cells ⟨(E : Int), (C : Int), 0, 0, 0, 0⟩).toArray 68)))
    obtain ⟨x, hx⟩ : ∃ x, W4.heap.size = x := ⟨_, rfl⟩
    obtain ⟨W6, hW6⟩ : ∃ W6, W4.alloc (.cells (M.cells ⟨(E : Int), (C : Int), 0, 0, 0, 0⟩).toArray 68) = W6 := ⟨_, rfl⟩
    rw [hW6] at HN6 HO6 HB6 HTL6 ⊢
    rw [hx] at HN6 hbound hw4 ⊢
    have h3x : 3 ≤ x := Nat.le_trans h3.out hw4
    clear hW6 hx
    go_wp2_with fail
    refine (HFIT.out W6 x HN6.out (HT.out.only HO6.out (by simp)) h3x).mono ?_
    rintro e w7 ⟨tv2, xs2, rfl, htl2, hb7, ho7, htk2⟩
    have HO7 : Hid (Only [] w w7) := hid (HO6.out.fresh ho7 (fun i hi hlt => by simp at hi; omega))
    have HB7 := hid (ho7.blk HB6.out (by simp; omega))
    have HTL7 := hid (HTL6.out.meter HN6.out ho7)
    have HTL2 := hid htl2
    have HTK2 := hid htk2
    have HM7 := hid hb7
    clear htl2 ho7 htk2 hb7 HN6 HB6 HTL6 HB4 HTL4 HO4 HO6
    have g0 : (w7.alloc (.cells #[.int .i64 k, .int .i64 n] 35)).cell? ⟨f, 0, none⟩ = some (.int .i64 k) := (HB7.out.alloc _).cell 0
    have g1 : (w7.alloc (.cells #[.int .i64 k, .int .i64 n] 35)).cell? ⟨f, 1, none⟩ = some (.int .i64 n) := (HB7.out.alloc _).cell 1
    go_wp2_with fail
    have hk8 : Only [] w7 (w7.alloc (.cells #[.int .i64 k, .int .i64 n] 35)) := (Only.refl _ _).alloc _
    have HM8 := hid (hk8.blk HM7.out (by simp))
    have HO8 := hid (HO7.out.trans hk8)
    have HLEN2 : Hid (xs2.length ≤ 4294967296 ∧ ∀ x ∈ xs2, x.1.ch.length ≤ 4294967296) := hid (short_of HTK2.out (tks_short (s := s) (by have := HS.out; omega)).1 (tks_short (s := s) (by have := HS.out; omega)).2)
    have HA := hid ((HTL2.out.still hk8).reads HLEN2.out)
    have HBB := hid ((HTL7.out.still hk8).reads (by rw [HNX.out]; exact HLEN.out))
    clear hk8
    refine (same_true xs2 xs _ _ _ HA.out HBB.out (by rw [HTK2.out, HTK.out])).mono ?_
    rintro e w9 ⟨rfl, ho9⟩
    have HM9 := hid (ho9.blk HM8.out (by simp))
    have HO9 := hid (HO8.out.trans ho9)
    clear ho9 HA HBB HTL7 HTL2 HM8 HO8
    go_wp2_with fail
    refine (steps_any _ x w9 HM9.out).mono ?_
    rintro e w9 ⟨rfl, rfl⟩
    simp only
    go_wp2_with fail
    refine (peak_any _ x w9 HM9.out).mono ?_
    rintro e w9 ⟨rfl, rfl⟩
    simp only
    have HL1 := hid hl
    go_upto_if 114 with fail
    go_cut [1] from 113 to 117 (fun v wx => ∃ m : Nat, v = .int .i64 m ∧ (m : Int) ≤ 9223372036854775807 ∧ wx = w9)
    case first =>
      by_cases hneg : less < 0
      · go_wp2_with fail
        go_meet
        exact ⟨(-(less + 1)).toNat, by go_num, by omega, rfl⟩
      · go_wp2_with fail
        go_meet
        exact ⟨less.toNat, by go_num, by omega, rfl⟩
    case rest =>
      obtain ⟨m, rfl, hm, hwc⟩ := hcut
      subst hwc
      have HO9' : Hid (Only [] w wc) := HO9
      go_upto_if 119 with fail
      go_cut [14, 15, 16, 17] from 118 to 155 (fun _ _ _ _ wx => Only [] w wx)
      case first =>
        by_cases hE0 : E = 0
        · have hE1 : ¬ (0 : Int) < (E : Int) := by omega
          clear hE0
          go_wp2_with fail
          go_meet
          exact HO9'.out
        · obtain ⟨r, hr⟩ : ∃ r, m % E = r := ⟨_, rfl⟩
          have hrl : r < E := by rw [← hr]; exact Nat.mod_lt _ (by omega)
          have hrI : (m : Int) % (E : Int) = (r : Int) := by rw [← hr]; simp
          obtain ⟨e1, he1⟩ : ∃ e1, E - 1 = e1 := ⟨_, rfl⟩
          obtain ⟨q, hq⟩ : ∃ q, e1 - r = q := ⟨_, rfl⟩
          have hw1 : IntKind.i64.wrap ((E : Int) - 1) = (e1 : Int) := (IntWalk.i64_in _ (by omega)).trans (by omega)
          have hw2 : IntKind.i64.wrap ((e1 : Int) - (r : Int)) = (q : Int) := (IntWalk.i64_in _ (by omega)).trans (by omega)
          have hE1 : (0 : Int) < (E : Int) := by omega
          have hEn : ¬ (E : Int) = 0 := by omega
          have hqE : Hid (q < E) := hid (by omega)
          clear hE0 hr hrl he1 hq
          go_wp2_with fail
          refine (HNEW.out _ q C).mono ?_
          rintro e w11 ⟨rfl, rfl⟩
          obtain ⟨W, hW⟩ : ∃ W : World, W = wc := ⟨_, rfl⟩
          have HON : Hid (Only [] w W) := hid (by rw [hW]; exact HO9'.out)
          rw [← hW]
          have HN := hid (Blk.new W (M.cells ⟨(q : Int), (C : Int), 0, 0, 0, 0⟩).toArray 68 rfl)
          have HO := hid (HON.out.alloc (.cells (M.cells ⟨(q : Int), (C : Int), 0, 0, 0, 0⟩).toArray 68))
          have hwx : w.heap.size ≤ W.heap.size := HON.out.size
          obtain ⟨y, hy⟩ : ∃ y, W.heap.size = y := ⟨_, rfl⟩
          obtain ⟨V, hV⟩ : ∃ V, W.alloc (.cells (M.cells ⟨(q : Int), (C : Int), 0, 0, 0, 0⟩).toArray 68) = V := ⟨_, rfl⟩
          rw [hV] at HN HO ⊢
          rw [hy] at HN hwx ⊢
          have h3y : 3 ≤ y := Nat.le_trans h3.out hwx
          clear hV hy hW
          go_wp2_with fail
          refine (HLESS.out V y q hqE.out HN.out (HT.out.only HO.out (by simp)) h3y).mono ?_
          rintro e w12 ⟨rfl, ⟨m', hb12, hd12⟩, ho12⟩
          have HB12 := hid hb12
          have HO12 : Hid (Only [] w w12) := hid (HO.out.fresh ho12 (fun i hi hlt => by simp at hi; omega))
          have HST := hid (fun W h => steps_any m' y W h)
          rw [hd12] at HST
          have q4 := neqF 20 0 20 0
          simp only [BEq.rfl, Bool.and_self, Bool.not_true] at q4
          clear hb12 ho12 hd12
          unfold nilS
          go_wp2_with fail
          go_quiet ((go_at_call 14; exact Calls.quiet_of_same (HST.out _ (by first | exact (HB12.out.alloc _).drewN _ | exact HB12.out.alloc _))))
          go_wp2_with fail
          go_meet
          exact (HO12.out.alloc _).drewN _
      case rest =>
      obtain ⟨wd, hwd⟩ : ∃ wd : World, wd = wc := ⟨_, rfl⟩
      have HOD := hid hcut
      clear hcut hwd
      go_upto_if 157 with fail
      go_cut [18, 19, 20, 21] from 156 to 193 (fun _ _ _ _ wx => Only [] w wx)
      case first =>
        by_cases hE0 : C = 0
        · have hE1 : ¬ (0 : Int) < (C : Int) := by omega
          clear hE0
          go_wp2_with fail
          go_meet
          exact HOD.out
        · obtain ⟨r, hr⟩ : ∃ r, m % C = r := ⟨_, rfl⟩
          have hrl : r < C := by rw [← hr]; exact Nat.mod_lt _ (by omega)
          have hrI : (m : Int) % (C : Int) = (r : Int) := by rw [← hr]; simp
          obtain ⟨e1, he1⟩ : ∃ e1, C - 1 = e1 := ⟨_, rfl⟩
          obtain ⟨q, hq⟩ : ∃ q, e1 - r = q := ⟨_, rfl⟩
          have hw1 : IntKind.i64.wrap ((C : Int) - 1) = (e1 : Int) := (IntWalk.i64_in _ (by omega)).trans (by omega)
          have hw2 : IntKind.i64.wrap ((e1 : Int) - (r : Int)) = (q : Int) := (IntWalk.i64_in _ (by omega)).trans (by omega)
          have hE1 : (0 : Int) < (C : Int) := by omega
          have hEn : ¬ (C : Int) = 0 := by omega
          have hqE : Hid (q < C) := hid (by omega)
          clear hE0 hr hrl he1 hq
          go_wp2_with fail
          refine (HNEW.out _ E q).mono ?_
          rintro e w11 ⟨rfl, rfl⟩
          obtain ⟨W, hW⟩ : ∃ W : World, W = wc := ⟨_, rfl⟩
          have HON : Hid (Only [] w W) := hid (by rw [hW]; exact HOD.out)
          rw [← hW]
          have HN := hid (Blk.new W (M.cells ⟨(E : Int), (q : Int), 0, 0, 0, 0⟩).toArray 68 rfl)
          have HO := hid (HON.out.alloc (.cells (M.cells ⟨(E : Int), (q : Int), 0, 0, 0, 0⟩).toArray 68))
          have hwx : w.heap.size ≤ W.heap.size := HON.out.size
          obtain ⟨y, hy⟩ : ∃ y, W.heap.size = y := ⟨_, rfl⟩
          obtain ⟨V, hV⟩ : ∃ V, W.alloc (.cells (M.cells ⟨(E : Int), (q : Int), 0, 0, 0, 0⟩).toArray 68) = V := ⟨_, rfl⟩
          rw [hV] at HN HO ⊢
          rw [hy] at HN hwx ⊢
          have h3y : 3 ≤ y := Nat.le_trans h3.out hwx
          clear hV hy hW
          go_wp2_with fail
          refine (HFEW.out V y q hqE.out HN.out (HT.out.only HO.out (by simp)) h3y).mono ?_
          rintro e w12 ⟨rfl, ⟨m', hb12, hd12⟩, ho12⟩
          have HB12 := hid hb12
          have HO12 : Hid (Only [] w w12) := hid (HO.out.fresh ho12 (fun i hi hlt => by simp at hi; omega))
          have HST := hid (fun W h => peak_any m' y W h)
          rw [hd12] at HST
          have q4 := neqF 21 0 21 0
          simp only [BEq.rfl, Bool.and_self, Bool.not_true] at q4
          clear hb12 ho12 hd12
          unfold nilS
          go_wp2_with fail
          go_quiet ((go_at_call 15; exact Calls.quiet_of_same (HST.out _ (by first | exact (HB12.out.alloc _).drewN _ | exact HB12.out.alloc _))))
          go_wp2_with fail
          go_meet
          exact (HO12.out.alloc _).drewN _
      case rest =>
      have HOE := hid hcut
      clear hcut
      go_wp2_with fail
      go_ret
      exact ⟨rfl, HOE.out⟩
  · rw [hb] at q1 q2
    obtain ⟨m1, hm1⟩ : ∃ m1 : Nat, nn + 1 = m1 := ⟨_, rfl⟩
    have hw1 : IntKind.i64.wrap (n + 1) = (m1 : Int) := (IntWalk.i64_in _ (by omega)).trans (by omega)
    have hmin : min (s.size : Int) (m1 : Int) = (E : Int) := by omega
    have hz0 : ¬ n < 0 := by omega
    have hz1 : ¬ (s.size : Int) < n := by omega
    have hnI : (nx : Int) = 0 := by omega
    clear hb hEm hnl hnn hnx0 hm1
    go_wp2_with fail
    refine (HNEW.out W4 E C).mono ?_
    rintro e w6 ⟨rfl, rfl⟩
    have HN6 := hid (Blk.new W4 (M.cells ⟨(E : Int), (C : Int), 0, 0, 0, 0⟩).toArray 68 rfl)
    have HO6 := hid (HO4.out.alloc (.cells (M.cells ⟨(E : Int), (C : Int), 0, 0, 0, 0⟩).toArray 68))
    have HB6 := hid (HB4.out.alloc (.cells (M.cells ⟨(E : Int), (C : Int), 0, 0, 0, 0⟩).toArray 68))
    have HTL6 := hid (HTL4.out.still ((Only.refl [] W4).alloc (.cells (M.cells ⟨(E : Int), (C : Int), 0, 0, 0, 0⟩).toArray 68)))
    obtain ⟨x, hx⟩ : ∃ x, W4.heap.size = x := ⟨_, rfl⟩
    obtain ⟨W6, hW6⟩ : ∃ W6, W4.alloc (.cells (M.cells ⟨(E : Int), (C : Int), 0, 0, 0, 0⟩).toArray 68) = W6 := ⟨_, rfl⟩
    rw [hW6] at HN6 HO6 HB6 HTL6 ⊢
    rw [hx] at HN6 hbound hw4 ⊢
    have h3x : 3 ≤ x := Nat.le_trans h3.out hw4
    clear hW6 hx
    go_wp2_with fail
    refine (HFIT.out W6 x HN6.out (HT.out.only HO6.out (by simp)) h3x).mono ?_
    rintro e w7 ⟨tv2, xs2, rfl, htl2, hb7, ho7, htk2⟩
    have HO7 : Hid (Only [] w w7) := hid (HO6.out.fresh ho7 (fun i hi hlt => by simp at hi; omega))
    have HB7 := hid (ho7.blk HB6.out (by simp; omega))
    have HTL7 := hid (HTL6.out.meter HN6.out ho7)
    have HTL2 := hid htl2
    have HTK2 := hid htk2
    have HM7 := hid hb7
    clear htl2 ho7 htk2 hb7 HN6 HB6 HTL6 HB4 HTL4 HO4 HO6
    have g0 : (w7.alloc (.cells #[.int .i64 k, .int .i64 n] 35)).cell? ⟨f, 0, none⟩ = some (.int .i64 k) := (HB7.out.alloc _).cell 0
    have g1 : (w7.alloc (.cells #[.int .i64 k, .int .i64 n] 35)).cell? ⟨f, 1, none⟩ = some (.int .i64 n) := (HB7.out.alloc _).cell 1
    go_wp2_with fail
    have hk8 : Only [] w7 (w7.alloc (.cells #[.int .i64 k, .int .i64 n] 35)) := (Only.refl _ _).alloc _
    have HM8 := hid (hk8.blk HM7.out (by simp))
    have HO8 := hid (HO7.out.trans hk8)
    have HLEN2 : Hid (xs2.length ≤ 4294967296 ∧ ∀ x ∈ xs2, x.1.ch.length ≤ 4294967296) := hid (short_of HTK2.out (tks_short (s := s) (by have := HS.out; omega)).1 (tks_short (s := s) (by have := HS.out; omega)).2)
    have HA := hid ((HTL2.out.still hk8).reads HLEN2.out)
    have HBB := hid ((HTL7.out.still hk8).reads (by rw [HNX.out]; exact HLEN.out))
    clear hk8
    refine (same_true xs2 xs _ _ _ HA.out HBB.out (by rw [HTK2.out, HTK.out])).mono ?_
    rintro e w9 ⟨rfl, ho9⟩
    have HM9 := hid (ho9.blk HM8.out (by simp))
    have HO9 := hid (HO8.out.trans ho9)
    clear ho9 HA HBB HTL7 HTL2 HM8 HO8
    go_wp2_with fail
    refine (steps_any _ x w9 HM9.out).mono ?_
    rintro e w9 ⟨rfl, rfl⟩
    simp only
    go_wp2_with fail
    refine (peak_any _ x w9 HM9.out).mono ?_
    rintro e w9 ⟨rfl, rfl⟩
    simp only
    have HL1 := hid hl
    go_upto_if 114 with fail
    go_cut [1] from 113 to 117 (fun v wx => ∃ m : Nat, v = .int .i64 m ∧ (m : Int) ≤ 9223372036854775807 ∧ wx = w9)
    case first =>
      by_cases hneg : less < 0
      · go_wp2_with fail
        go_meet
        exact ⟨(-(less + 1)).toNat, by go_num, by omega, rfl⟩
      · go_wp2_with fail
        go_meet
        exact ⟨less.toNat, by go_num, by omega, rfl⟩
    case rest =>
      obtain ⟨m, rfl, hm, hwc⟩ := hcut
      subst hwc
      have HO9' : Hid (Only [] w wc) := HO9
      go_upto_if 119 with fail
      go_cut [14, 15, 16, 17] from 118 to 155 (fun _ _ _ _ wx => Only [] w wx)
      case first =>
        by_cases hE0 : E = 0
        · have hE1 : ¬ (0 : Int) < (E : Int) := by omega
          clear hE0
          go_wp2_with fail
          go_meet
          exact HO9'.out
        · obtain ⟨r, hr⟩ : ∃ r, m % E = r := ⟨_, rfl⟩
          have hrl : r < E := by rw [← hr]; exact Nat.mod_lt _ (by omega)
          have hrI : (m : Int) % (E : Int) = (r : Int) := by rw [← hr]; simp
          obtain ⟨e1, he1⟩ : ∃ e1, E - 1 = e1 := ⟨_, rfl⟩
          obtain ⟨q, hq⟩ : ∃ q, e1 - r = q := ⟨_, rfl⟩
          have hw1 : IntKind.i64.wrap ((E : Int) - 1) = (e1 : Int) := (IntWalk.i64_in _ (by omega)).trans (by omega)
          have hw2 : IntKind.i64.wrap ((e1 : Int) - (r : Int)) = (q : Int) := (IntWalk.i64_in _ (by omega)).trans (by omega)
          have hE1 : (0 : Int) < (E : Int) := by omega
          have hEn : ¬ (E : Int) = 0 := by omega
          have hqE : Hid (q < E) := hid (by omega)
          clear hE0 hr hrl he1 hq
          go_wp2_with fail
          refine (HNEW.out _ q C).mono ?_
          rintro e w11 ⟨rfl, rfl⟩
          obtain ⟨W, hW⟩ : ∃ W : World, W = wc := ⟨_, rfl⟩
          have HON : Hid (Only [] w W) := hid (by rw [hW]; exact HO9'.out)
          rw [← hW]
          have HN := hid (Blk.new W (M.cells ⟨(q : Int), (C : Int), 0, 0, 0, 0⟩).toArray 68 rfl)
          have HO := hid (HON.out.alloc (.cells (M.cells ⟨(q : Int), (C : Int), 0, 0, 0, 0⟩).toArray 68))
          have hwx : w.heap.size ≤ W.heap.size := HON.out.size
          obtain ⟨y, hy⟩ : ∃ y, W.heap.size = y := ⟨_, rfl⟩
          obtain ⟨V, hV⟩ : ∃ V, W.alloc (.cells (M.cells ⟨(q : Int), (C : Int), 0, 0, 0, 0⟩).toArray 68) = V := ⟨_, rfl⟩
          rw [hV] at HN HO ⊢
          rw [hy] at HN hwx ⊢
          have h3y : 3 ≤ y := Nat.le_trans h3.out hwx
          clear hV hy hW
          go_wp2_with fail
          refine (HLESS.out V y q hqE.out HN.out (HT.out.only HO.out (by simp)) h3y).mono ?_
          rintro e w12 ⟨rfl, ⟨m', hb12, hd12⟩, ho12⟩
          have HB12 := hid hb12
          have HO12 : Hid (Only [] w w12) := hid (HO.out.fresh ho12 (fun i hi hlt => by simp at hi; omega))
          have HST := hid (fun W h => steps_any m' y W h)
          rw [hd12] at HST
          have q4 := neqF 20 0 20 0
          simp only [BEq.rfl, Bool.and_self, Bool.not_true] at q4
          clear hb12 ho12 hd12
          unfold nilS
          go_wp2_with fail
          go_quiet ((go_at_call 14; exact Calls.quiet_of_same (HST.out _ (by first | exact (HB12.out.alloc _).drewN _ | exact HB12.out.alloc _))))
          go_wp2_with fail
          go_meet
          exact (HO12.out.alloc _).drewN _
      case rest =>
      obtain ⟨wd, hwd⟩ : ∃ wd : World, wd = wc := ⟨_, rfl⟩
      have HOD := hid hcut
      clear hcut hwd
      go_upto_if 157 with fail
      go_cut [18, 19, 20, 21] from 156 to 193 (fun _ _ _ _ wx => Only [] w wx)
      case first =>
        by_cases hE0 : C = 0
        · have hE1 : ¬ (0 : Int) < (C : Int) := by omega
          clear hE0
          go_wp2_with fail
          go_meet
          exact HOD.out
        · obtain ⟨r, hr⟩ : ∃ r, m % C = r := ⟨_, rfl⟩
          have hrl : r < C := by rw [← hr]; exact Nat.mod_lt _ (by omega)
          have hrI : (m : Int) % (C : Int) = (r : Int) := by rw [← hr]; simp
          obtain ⟨e1, he1⟩ : ∃ e1, C - 1 = e1 := ⟨_, rfl⟩
          obtain ⟨q, hq⟩ : ∃ q, e1 - r = q := ⟨_, rfl⟩
          have hw1 : IntKind.i64.wrap ((C : Int) - 1) = (e1 : Int) := (IntWalk.i64_in _ (by omega)).trans (by omega)
          have hw2 : IntKind.i64.wrap ((e1 : Int) - (r : Int)) = (q : Int) := (IntWalk.i64_in _ (by omega)).trans (by omega)
          have hE1 : (0 : Int) < (C : Int) := by omega
          have hEn : ¬ (C : Int) = 0 := by omega
          have hqE : Hid (q < C) := hid (by omega)
          clear hE0 hr hrl he1 hq
          go_wp2_with fail
          refine (HNEW.out _ E q).mono ?_
          rintro e w11 ⟨rfl, rfl⟩
          obtain ⟨W, hW⟩ : ∃ W : World, W = wc := ⟨_, rfl⟩
          have HON : Hid (Only [] w W) := hid (by rw [hW]; exact HOD.out)
          rw [← hW]
          have HN := hid (Blk.new W (M.cells ⟨(E : Int), (q : Int), 0, 0, 0, 0⟩).toArray 68 rfl)
          have HO := hid (HON.out.alloc (.cells (M.cells ⟨(E : Int), (q : Int), 0, 0, 0, 0⟩).toArray 68))
          have hwx : w.heap.size ≤ W.heap.size := HON.out.size
          obtain ⟨y, hy⟩ : ∃ y, W.heap.size = y := ⟨_, rfl⟩
          obtain ⟨V, hV⟩ : ∃ V, W.alloc (.cells (M.cells ⟨(E : Int), (q : Int), 0, 0, 0, 0⟩).toArray 68) = V := ⟨_, rfl⟩
          rw [hV] at HN HO ⊢
          rw [hy] at HN hwx ⊢
          have h3y : 3 ≤ y := Nat.le_trans h3.out hwx
          clear hV hy hW
          go_wp2_with fail
          refine (HFEW.out V y q hqE.out HN.out (HT.out.only HO.out (by simp)) h3y).mono ?_
          rintro e w12 ⟨rfl, ⟨m', hb12, hd12⟩, ho12⟩
          have HB12 := hid hb12
          have HO12 : Hid (Only [] w w12) := hid (HO.out.fresh ho12 (fun i hi hlt => by simp at hi; omega))
          have HST := hid (fun W h => peak_any m' y W h)
          rw [hd12] at HST
          have q4 := neqF 21 0 21 0
          simp only [BEq.rfl, Bool.and_self, Bool.not_true] at q4
          clear hb12 ho12 hd12
          unfold nilS
          go_wp2_with fail
          go_quiet ((go_at_call 15; exact Calls.quiet_of_same (HST.out _ (by first | exact (HB12.out.alloc _).drewN _ | exact HB12.out.alloc _))))
          go_wp2_with fail
          go_meet
          exact (HO12.out.alloc _).drewN _
      case rest =>
      have HOE := hid hcut
      clear hcut
      go_wp2_with fail
      go_ret
      exact ⟨rfl, HOE.out⟩
end Go.Proofs.YthlbbinlkmchjaaDoor
