/- Read. -/
import Derived.Test.YtapnmopcmlcfbaaDoorDec
import Derived.Test.YtapnmopcmlcfbaaDoorMeas
import Derived.Test.YtapnmopcmlcfbaaDoorRefU
namespace Go.Proofs.YtapnmopcmlcfbaaDoor
open Go.RowKit

theorem form_le {l : List Nat} {p k : Nat} {u : List Nat} (h : form l = some (p, k, u)) : k ≤ 4 ∧ p < 10000000000000000000 ∧ u.length ≤ l.length := by
  unfold form at h
  have hd1 := dg_pre l
  have hp1 := num_lt hd1
  by_cases h1 : dg l < 1 ∨ 15 < dg l
  · rw [if_pos h1] at h; cases h
  · rw [if_neg h1] at h
    have hq : 10 ^ (l.take (dg l)).length ≤ 1000000000000000 := by
      refine Nat.pow_le_pow_right (i := (l.take (dg l)).length) (j := 15) (by decide) ?_
      rw [List.length_take]; omega
    by_cases h2 : (l.drop (dg l)).head? = some 46
    · rw [if_pos h2] at h
      by_cases h3 : dg (l.drop (dg l + 1)) < 1 ∨ 4 < dg (l.drop (dg l + 1))
      · rw [if_pos h3] at h; cases h
      · rw [if_neg h3] at h
        injection h with h
        injection h with h4 h
        injection h with h5 h6
        have hd2 := dg_pre (l.drop (dg l + 1))
        have hb := num_bound hd2 (num 0 (l.take (dg l)))
        rw [h4] at hb
        have hq2 : 10 ^ ((l.drop (dg l + 1)).take (dg (l.drop (dg l + 1)))).length ≤ 10000 := by
          refine Nat.pow_le_pow_right (i := ((l.drop (dg l + 1)).take (dg (l.drop (dg l + 1)))).length) (j := 4) (by decide) ?_
          rw [List.length_take]; omega
        have hm := Nat.mul_le_mul (show num 0 (l.take (dg l)) + 1 ≤ 1000000000000000 by omega) hq2
        refine ⟨by omega, by omega, ?_⟩
        rw [← h6, List.length_drop, List.length_drop]; omega
    · rw [if_neg h2] at h
      injection h with h
      injection h with h4 h
      injection h with h5 h6
      refine ⟨by omega, by omega, ?_⟩
      rw [← h6, List.length_drop]; omega
theorem unit_ways (b : ByteArray) : (mea (bl b) = none ∧ ∀ size, unitOf (bl b) size = none) ∨ b = uT5 ∨
    ∃ n d : Nat, mea (bl b) = some (n, d) ∧ (∀ size, unitOf (bl b) size = some (n, d)) ∧ bl b ≠ [101, 109] ∧ (b.toList == [101, 109]) = false ∧ n ≤ 23592960 ∧ (d = 1 ∨ d = 127) := by
  rcases name_ways b with h | h | h | h | h | h | ⟨hn, h0, h1, h2, h3, h4, h5⟩
  · subst h; exact .inr (.inr ⟨65536, 1, rfl, fun _ => rfl, by decide, toList_ne2 (u := uT5) (l := [101, 109]) (fun e => absurd (congrArg bl e) (by decide)) rfl, by decide, by decide⟩)
  · subst h; exact .inr (.inr ⟨65536, 1, rfl, fun _ => rfl, by decide, toList_ne2 (u := uT5) (l := [101, 109]) (fun e => absurd (congrArg bl e) (by decide)) rfl, by decide, by decide⟩)
  · subst h; exact .inr (.inr ⟨4718592, 1, rfl, fun _ => rfl, by decide, toList_ne2 (u := uT5) (l := [101, 109]) (fun e => absurd (congrArg bl e) (by decide)) rfl, by decide, by decide⟩)
  · subst h; exact .inr (.inr ⟨23592960, 127, rfl, fun _ => rfl, by decide, toList_ne2 (u := uT5) (l := [101, 109]) (fun e => absurd (congrArg bl e) (by decide)) rfl, by decide, by decide⟩)
  · subst h; exact .inr (.inr ⟨1, 1, rfl, fun _ => rfl, by decide, toList_ne2 (u := uT5) (l := [101, 109]) (fun e => absurd (congrArg bl e) (by decide)) rfl, by decide, by decide⟩)
  · exact .inr (.inl h)
  · refine .inl ⟨hn, fun size => ?_⟩
    unfold mea at hn
    unfold unitOf
    repeat' split at hn
    all_goals first | cases hn | skip
    rename_i g0 g1 g2 g3 g4
    rw [if_neg g0, if_neg g1, if_neg g2, if_neg g3, if_neg g4]

/-- Read's answer in words -/
theorem rd_form {l : List Nat} {size : Int} (h : form l = none) : rd l size = (0, 80) := by unfold rd; rw [h]
theorem rd_unit {l u : List Nat} {p k : Nat} {size : Int} (h : form l = some (p, k, u)) (h2 : unitOf u size.toNat = none) : rd l size = (0, 80) := by unfold rd; rw [h]; simp only; rw [h2]
theorem rd_em {l u : List Nat} {p k n d : Nat} {size : Int} (h : form l = some (p, k, u)) (h2 : unitOf u size.toNat = some (n, d)) (h3 : u = [101, 109] ∧ (size < 0 ∨ 70368744177664 < size)) : rd l size = (0, 81) := by
  unfold rd; rw [h]; simp only; rw [h2]; simp only; rw [if_pos h3]
def nearO : Option Nat → Int × Int
  | none => (0, 81)
  | some q => ((q : Int), 0)
theorem rd_near {l u : List Nat} {p k n d : Nat} {size : Int} (h : form l = some (p, k, u)) (h2 : unitOf u size.toNat = some (n, d)) (h3 : ¬ (u = [101, 109] ∧ (size < 0 ∨ 70368744177664 < size))) : rd l size = nearO (near (p * n) (d * 10 ^ k)) := by
  unfold rd; rw [h]; simp only; rw [h2]; simp only; rw [if_neg h3]
  rcases near (p * n) (d * 10 ^ k) with _ | q <;> rfl
theorem near_le {V d q : Nat} (h : near V d = some q) : q ≤ 70368744177664 := by
  unfold near at h
  split at h
  · cases h
  · next hn =>
    injection h with h
    split at h
    · rename_i h2
      have h3 : V / d < 70368744177664 := by
        rcases Nat.lt_or_ge (V / d) 70368744177664 with g | g
        · exact g
        · have : V / d = 70368744177664 := by omega
          have h5 : V % d = 0 := by omega
          rw [h5] at h2
          have hd0 : d = 0 := by omega
          subst hd0
          rw [Nat.div_zero] at this
          omega
      omega
    · omega

set_option maxRecDepth 100000 in
set_option maxHeartbeats 4000000 in
theorem read_any (s : ByteArray) (size : Int) (w : World) (hs : s.size ≤ 140737488355328) (hz0 : -9223372036854775808 ≤ size) (hz1 : size ≤ 9223372036854775807) (hU : Un w) :
    Calls Tryd.prog 8 #[.string s, .int .i64 size] w fun e w' => e = .returned (.tuple #[.int .i64 (rd (bl s) size).1, .int .i64 (rd (bl s) size).2]) ∧ Only [] w w' := by
  obtain ⟨A, hA⟩ : ∃ A, rd (bl s) size = A := ⟨_, rfl⟩
  rw [hA]
  have HA := hid hA
  have HU := hid hU
  clear hA hU
  obtain ⟨a1, a2⟩ := A
  show Calls _ _ _ _ (fun e w' => e = .returned (.tuple #[.int .i64 a1, .int .i64 a2]) ∧ Only [] w w')
  go_enter Tryd.func8, Tryd.ntmps8
  go_wp2_with fail
  refine (decimal_any s w hs).mono ?_
  rintro e w1 ⟨hdp, ho1⟩
  have HO1 := hid ho1
  clear ho1
  unfold DecPost at hdp
  rcases hf : form (bl s) with _ | ⟨p, k, u⟩
  · rw [hf] at hdp
    simp only at hdp
    subst hdp
    have hr := rd_form (size := size) hf
    have hr2 := HA.out.symm.trans hr
    injection hr2 with h1 h2
    subst h1
    subst h2
    clear hr hf
    go_wp2_with fail
    go_ret2
    exact ⟨rfl, HO1.out.alloc _⟩
  · rw [hf] at hdp
    simp only at hdp
    obtain ⟨b, hb, rfl⟩ := hdp
    obtain ⟨hk, hp, hul⟩ := form_le hf
    have hbz : b.size ≤ 140737488355328 := by
      rw [← bl_length, hb]; rw [bl_length] at hul; omega
    obtain ⟨Z, hZ⟩ : ∃ Z, 10 ^ k = Z := ⟨_, rfl⟩
    have hZ1 : Z ≤ 10000 := by rw [← hZ]; exact Nat.pow_le_pow_right (i := k) (j := 4) (by decide) hk
    have hZ0 : 0 < Z := by rw [← hZ]; exact Nat.pow_pos (by decide)
    rw [hZ]
    have HF := hid hf
    have HB := hid hb
    have HZ := hid hZ
    have hp2 : (p : Int) < 10000000000000000000 := by omega
    have hp3 : (0 : Int) ≤ (p : Int) := by omega
    have hZ2 : (Z : Int) ≤ 10000 := by omega
    have hZ3 : (0 : Int) < (Z : Int) := by omega
    have HP := hid hp
    clear hf hb hul hk hZ hp
    have hU1 := HU.out.only (HO1.out.alloc (.cells #[.int .u64 p, .int .u64 Z] 37)) (by simp)
    have HM := hid (measured_any b _ hU1)
    clear hU1
    obtain ⟨W2, hW2⟩ : ∃ W2, w1.alloc (.cells #[.int .u64 p, .int .u64 Z] 37) = W2 := ⟨_, rfl⟩
    obtain ⟨b1, hb1⟩ : ∃ b1, w1.heap.size = b1 := ⟨_, rfl⟩
    have HK2 : Hid (Blk W2 b1 [.int .u64 p, .int .u64 Z] 37) := by rw [← hW2]; exact Blk.new _ _ _ hb1
    have HO2 : Hid (Only [] w W2) := by rw [← hW2]; exact HO1.out.alloc _
    have HB1 : Hid (w.heap.size ≤ b1) := by show _ ≤ _; rw [← hb1]; exact HO1.out.size
    rw [hW2] at HM
    go_wp2_with fail
    clear hW2 hb1
    refine HM.out.mono ?_
    rintro e w3 ⟨rfl, ho3⟩
    have HK3 := hid (ho3.blk HK2.out (by simp))
    have HO3 := hid (HO2.out.trans ho3)
    clear ho3 HM
    rcases unit_ways b with ⟨hm, hu⟩ | rfl | ⟨n, d, hm, hu, hne, heq, hn, hd⟩
    · rw [hm]
      have hr2 := HA.out.symm.trans (rd_unit HF.out (by rw [← HB.out]; exact hu _))
      injection hr2 with h1 h2
      subst h1
      subst h2
      clear hm hu
      unfold meaV
      go_wp2_with fail
      go_ret2
      exact ⟨rfl, HO3.out.alloc _⟩
    · have heq : (uT5.toList == [101, 109]) = true := by rw [ByteArray.toList_eq]; rfl
      rw [show mea (bl uT5) = some (0, 1) from rfl]
      unfold meaV
      have hub : bl uT5 = [101, 109] := rfl
      have HL := hid (fun W => isLength_any size W)
      by_cases hlen : 0 ≤ size ∧ size ≤ 70368744177664
      · rw [lenB_mk hlen.1 hlen.2] at HL
        obtain ⟨m, rfl⟩ : ∃ m : Nat, size = (m : Int) := ⟨size.toNat, by omega⟩
        have HUN := hid (show unitOf u (m : Int).toNat = some (m, 1) by rw [← HB.out]; rfl)
        have HNE := hid (show ¬ (u = [101, 109] ∧ ((m : Int) < 0 ∨ 70368744177664 < (m : Int))) by omega)
        have HN := hid (fun W => nearest_any p m (1 * Z) W (by have := HP.out; omega) (by omega) (by omega) (by omega))
        rw [Nat.one_mul] at HN
        have hm0 : (0 : Int) ≤ (m : Int) := by omega
        have hm1 : (m : Int) ≤ 70368744177664 := by omega
        have hbl3 := HK3.out.lt
        have c0 : ∀ o, (w3.alloc o).cell? ⟨b1, 0, none⟩ = some (.int .u64 p) := fun o => (HK3.out.alloc o).cell 0
        have c1 : ∀ o, (w3.alloc o).cell? ⟨b1, 1, none⟩ = some (.int .u64 Z) := fun o => (HK3.out.alloc o).cell 1
        clear hlen hub hz0 hz1
        go_wp2_with fail
        refine (HL.out _).mono ?_
        rintro e w4 ⟨rfl, rfl⟩
        go_wp2_with fail
        refine (HN.out _).mono ?_
        rintro e w5 ⟨rfl, ho5⟩
        have HO5 := hid ((HO3.out.alloc _).trans ho5)
        have hr3 := HA.out.symm.trans (rd_near HF.out HUN.out HNE.out)
        rw [HZ.out, Nat.one_mul] at hr3
        have HR := hid hr3
        clear ho5 HN hr3
        rcases hnr : near (p * m) Z with _ | q
        · have h3 := HR.out
          rw [hnr] at h3
          injection h3 with h1 h2
          subst h1
          subst h2
          clear hnr
          unfold nearV
          go_wp2_with fail
          go_ret2
          exact ⟨rfl, HO5.out⟩
        · have h3 := HR.out
          rw [hnr] at h3
          have hq := near_le hnr
          have hq2 : (q : Int) ≤ 70368744177664 := by omega
          have hq0 : (0 : Int) ≤ (q : Int) := by omega
          injection h3 with h1 h2
          subst h1
          subst h2
          clear hnr hq
          unfold nearV
          go_wp2_with fail
          go_ret2
          exact ⟨rfl, HO5.out⟩
      · rw [lenB_no hlen] at HL
        have hr2 := HA.out.symm.trans (rd_em HF.out (n := size.toNat) (d := 1) (by rw [← HB.out]; rfl) ⟨by rw [← HB.out]; rfl, by omega⟩)
        injection hr2 with h1 h2
        subst h1
        subst h2
        clear hlen hub
        go_wp2_with fail
        refine (HL.out _).mono ?_
        rintro e w4 ⟨rfl, rfl⟩
        go_wp2_with fail
        go_ret2
        exact ⟨rfl, HO3.out.alloc _⟩
    · rw [hm]
      unfold meaV
      obtain ⟨D, hD⟩ : ∃ D, d * Z = D := ⟨_, rfl⟩
      have hD1 : (Z : Int) * (d : Int) = (D : Int) := by rw [← hD, Nat.mul_comm]; rfl
      have hD2 : 0 < D ∧ D ≤ 1270000 := by
        have := Nat.mul_le_mul (show d ≤ 127 by omega) hZ1
        have h4 : 0 < d * Z := Nat.mul_pos (by omega) hZ0
        omega
      have hD3 : (D : Int) ≤ 1270000 := by omega
      have hD4 : (0 : Int) < (D : Int) := by omega
      have HUN := hid (show unitOf u size.toNat = some (n, d) by rw [← HB.out]; exact hu _)
      have HNE := hid (show ¬ (u = [101, 109] ∧ (size < 0 ∨ 70368744177664 < size)) by rw [← HB.out]; exact fun e => hne e.1)
      have HN := hid (fun W => nearest_any p n D W (by have := HP.out; omega) (by omega) (by omega) (by omega))
      have hbl3 := HK3.out.lt
      have c0 : ∀ o, (w3.alloc o).cell? ⟨b1, 0, none⟩ = some (.int .u64 p) := fun o => (HK3.out.alloc o).cell 0
      have c1 : ∀ o, (w3.alloc o).cell? ⟨b1, 1, none⟩ = some (.int .u64 Z) := fun o => (HK3.out.alloc o).cell 1
      have HD := hid hD
      clear hm hu hne hn hd hD hD2 hz0 hz1
      go_wp2_with fail
      refine (HN.out _).mono ?_
      rintro e w5 ⟨rfl, ho5⟩
      have HO5 := hid ((HO3.out.alloc _).trans ho5)
      have hr3 := HA.out.symm.trans (rd_near HF.out HUN.out HNE.out)
      rw [HZ.out, HD.out] at hr3
      have HR := hid hr3
      clear ho5 HN hr3
      rcases hnr : near (p * n) D with _ | q
      · have h3 := HR.out
        rw [hnr] at h3
        injection h3 with h1 h2
        subst h1
        subst h2
        clear hnr
        unfold nearV
        go_wp2_with fail
        go_ret2
        exact ⟨rfl, HO5.out⟩
      · have h3 := HR.out
        rw [hnr] at h3
        have hq := near_le hnr
        have hq2 : (q : Int) ≤ 70368744177664 := by omega
        have hq0 : (0 : Int) ≤ (q : Int) := by omega
        injection h3 with h1 h2
        subst h1
        subst h2
        clear hnr hq
        unfold nearV
        go_wp2_with fail
        go_ret2
        exact ⟨rfl, HO5.out⟩
end Go.Proofs.YtapnmopcmlcfbaaDoor
