/- nearest: the whole number nearest to n * num / den. -/
import Derived.Test.YtapnmopcmlcfbaaDoorDiv2
import Derived.Test.YtapnmopcmlcfbaaDoorNumb
namespace Go.Proofs.YtapnmopcmlcfbaaDoor
open Go.RowKit

/-- what nearest answers -/
def nearV (o : Option Nat) : Value := match o with | none => .tuple #[.int .i64 0, .bool false] | some q => .tuple #[.int .i64 q, .bool true]
theorem near_ret (q : Nat) : Ending.returned (.tuple #[.int .i64 ((q : Int) + 1), .bool true]) = .returned (nearV (some (q + 1))) := by
  unfold nearV; simp only; rw [show ((q + 1 : Nat) : Int) = (q : Int) + 1 by omega]
theorem near_ret0 {q : Nat} {Q : Int} (h : Q = (q : Int)) : Ending.returned (.tuple #[.int .i64 Q, .bool true]) = .returned (nearV (some q)) := by
  subst h; rfl
theorem split_hi (V : Nat) : ((V / 18446744073709551616 : Nat) : Int) * 18446744073709551616 + ((V % 18446744073709551616 : Nat) : Int) = (V : Int) := by omega
theorem near_great {V d : Nat} (hd : 0 < d) (h : d ≤ V / 18446744073709551616) : near V d = none := by
  unfold near
  have h1 : d * 18446744073709551616 ≤ V := Nat.le_trans (Nat.mul_le_mul_right _ h) (Nat.div_mul_le_self _ _)
  have h2 : 18446744073709551616 ≤ V / d := by rw [Nat.le_div_iff_mul_le hd, Nat.mul_comm]; exact h1
  rw [if_pos (.inl (by omega))]
theorem near_none {V d : Nat} (h : 70368744177664 < V / d ∨ (V / d = 70368744177664 ∧ 0 < V % d)) : near V d = none := by unfold near; rw [if_pos h]
theorem near_some {V d : Nat} (h : ¬ (70368744177664 < V / d ∨ (V / d = 70368744177664 ∧ 0 < V % d))) : near V d = some (if d ≤ 2 * (V % d) then V / d + 1 else V / d) := by unfold near; rw [if_neg h]

set_option maxRecDepth 100000 in
set_option maxHeartbeats 4000000 in
theorem nearest_any (p n d : Nat) (w : World) (hp : p < 18446744073709551616) (hn : n < 18446744073709551616) (hd : 0 < d) (hd1 : d ≤ 4294967296) :
    Calls Tryd.prog 19 #[.int .u64 p, .int .u64 n, .int .u64 d] w fun e w' => e = .returned (nearV (near (p * n) d)) ∧ Only [] w w' := by
  obtain ⟨V, hV⟩ : ∃ V, p * n = V := ⟨_, rfl⟩
  have HM := hid (fun W => Tryd.bits_Mul64 p n hp hn W)
  rw [hV] at HM
  rw [hV]
  have hsp := split_hi V
  obtain ⟨hi, hhi⟩ : ∃ hi, V / 18446744073709551616 = hi := ⟨_, rfl⟩
  obtain ⟨lo, hlo⟩ : ∃ lo, V % 18446744073709551616 = lo := ⟨_, rfl⟩
  rw [hhi, hlo] at HM hsp
  have hlo1 : lo < 18446744073709551616 := by omega
  have hr := Nat.mod_lt V hd
  have hd2 : (0 : Int) < (d : Int) := by omega
  have hd3 : (d : Int) ≤ 4294967296 := by omega
  have hi0 : (0 : Int) ≤ (hi : Int) := by omega
  obtain ⟨o, ho⟩ : ∃ o, near V d = o := ⟨_, rfl⟩
  have HO := hid ho
  rw [ho]
  clear ho
  by_cases hg : d ≤ hi
  · have hgi : (d : Int) ≤ (hi : Int) := by omega
    have HN := hid (near_great hd (by rw [hhi]; exact hg))
    clear hsp hV hhi hlo hlo1 hr hg
    go_enter Tryd.func19, Tryd.ntmps19
    go_wp2_with fail
    refine (HM.out _).mono ?_
    rintro e w1 ⟨rfl, rfl⟩
    go_wp2_with fail
    go_ret2
    rw [← HO.out, HN.out]
    exact ⟨rfl, Only.refl _ _⟩
  · have hgi : ¬ (d : Int) ≤ (hi : Int) := by omega
    have HD := hid (fun W => div64 (hi : Int) (lo : Int) (d : Int) (by omega) (by omega) (by omega) (by omega) (by omega) W)
    rw [hsp] at HD
    have e1 : (V : Int) / (d : Int) = ((V / d : Nat) : Int) := by omega
    have e2 : (V : Int) % (d : Int) = ((V % d : Nat) : Int) := by omega
    rw [e1, e2] at HD
    have hN1 := @near_none V d
    have hN2 := @near_some V d
    obtain ⟨q, hq⟩ : ∃ q, V / d = q := ⟨_, rfl⟩
    obtain ⟨r, hr'⟩ : ∃ r, V % d = r := ⟨_, rfl⟩
    rw [hq, hr'] at HD hN1 hN2
    rw [hr'] at hr
    have hr0 : (0 : Int) ≤ (r : Int) := by omega
    have hr1 : (r : Int) < (d : Int) := by omega
    have hq0 : (0 : Int) ≤ (q : Int) := by omega
    clear hsp hV hhi hlo e1 e2 hg hlo1 hq hr' hr
    by_cases hno : 70368744177664 < q ∨ (q = 70368744177664 ∧ 0 < r)
    · have HN := hid (hN1 hno)
      have hor : (70368744177664 : Int) < (q : Int) ∨ (¬ (70368744177664 : Int) < (q : Int) ∧ (q : Int) = 70368744177664 ∧ (0 : Int) < (r : Int)) := by omega
      clear hno hN1 hN2
      rcases hor with h1 | ⟨h1, h2, h3⟩
      all_goals
        go_enter Tryd.func19, Tryd.ntmps19
        go_wp2_with fail
        refine (HM.out _).mono ?_
        rintro e w1 ⟨rfl, rfl⟩
        go_wp2_with fail
        refine (HD.out _).mono ?_
        rintro e w1 ⟨rfl, nn, rfl⟩
        go_wp2_with fail
        go_ret2
        rw [← HO.out, HN.out]
        exact ⟨rfl, (Only.refl _ _).drewN _⟩
    · have HN := hid (hN2 hno)
      have hor : (q : Int) < 70368744177664 ∨ ((q : Int) = 70368744177664 ∧ (r : Int) = 0) := by omega
      have hqr : q = 70368744177664 → r = 0 := by omega
      obtain ⟨Q, hQ⟩ : ∃ Q : Int, (q : Int) = Q := ⟨_, rfl⟩
      obtain ⟨R, hR⟩ : ∃ R : Int, (r : Int) = R := ⟨_, rfl⟩
      rw [hQ, hR] at HD
      have h5 : Q < 70368744177664 ∨ (Q = 70368744177664 ∧ R = 0) := by omega
      have hR0 : 0 ≤ R := by omega
      have hR1 : R < (d : Int) := by omega
      have hQ0 : 0 ≤ Q := by omega
      have HQ := hid hQ
      by_cases h2 : d ≤ 2 * r
      · have h2' : (d : Int) ≤ 2 * R := by omega
        rw [if_pos h2] at HN
        have h1 : Q < 70368744177664 := by omega
        clear h2 hno hN1 hN2 hor hqr hQ hR h5 hr0 hr1 hq0
        go_enter Tryd.func19, Tryd.ntmps19
        go_wp2_with fail
        refine (HM.out _).mono ?_
        rintro e w1 ⟨rfl, rfl⟩
        go_wp2_with fail
        refine (HD.out _).mono ?_
        rintro e w1 ⟨rfl, nn, rfl⟩
        go_wp2_with fail
        go_ret2
        rw [← HO.out, HN.out, ← HQ.out]
        exact ⟨near_ret _, (Only.refl _ _).drewN _⟩
      · have h2' : ¬ (d : Int) ≤ 2 * R := by omega
        rw [if_neg h2] at HN
        clear h2 hno hN1 hN2 hor hqr hQ hR hr0 hr1 hq0
        rcases h5 with h1 | ⟨h1, h3⟩
        all_goals
          go_enter Tryd.func19, Tryd.ntmps19
          go_wp2_with fail
          refine (HM.out _).mono ?_
          rintro e w1 ⟨rfl, rfl⟩
          go_wp2_with fail
          refine (HD.out _).mono ?_
          rintro e w1 ⟨rfl, nn, rfl⟩
          go_wp2_with fail
          go_ret2
          rw [← HO.out, HN.out]
          have hq := HQ.out
          exact ⟨near_ret0 (by omega), (Only.refl _ _).drewN _⟩
end Go.Proofs.YtapnmopcmlcfbaaDoor
