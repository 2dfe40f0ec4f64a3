/- What was written is read as it was; numbers in digits; greater numbers. -/
import Derived.Test.YtapnmopcmlcfbaaDoorShown
namespace Go.Proofs.YtapnmopcmlcfbaaDoor
open Go.RowKit

theorem bl_digit (n : Nat) (h : n < 10) : bl (decS n) = [48 + n] := by
  unfold decS bl
  rw [Lib.decDigits_one h]
  have : ∀ i : Fin 10, ((⟨[UInt8.ofNat (48 + i.val)].toArray⟩ : ByteArray).data.toList.map UInt8.toNat) = [48 + i.val] := by decide +kernel
  exact this ⟨n, h⟩
theorem bl_dec (n : Nat) : Dgs (bl (decS n)) ∧ num 0 (bl (decS n)) = n := by
  induction n using Nat.strongRecOn with
  | _ n ih =>
    by_cases h : n < 10
    · rw [bl_digit n h]
      refine ⟨fun c hc => ?_, ?_⟩
      · rw [List.mem_singleton] at hc; omega
      · show 10 * 0 + (48 + n - 48) = n; omega
    · obtain ⟨h1, h2⟩ := ih (n / 10) (by omega)
      rw [decS_big h, bl_append, bl_digit (n % 10) (by omega)]
      refine ⟨h1.app (fun c hc => ?_), ?_⟩
      · rw [List.mem_singleton] at hc; omega
      · rw [num_append, h2]
        show 10 * (n / 10) + (48 + n % 10 - 48) = n
        omega
/-- a number and a unit's name behind it -/
theorem form_whole {D u : List Nat} (h : Dgs D) (h0 : 0 < D.length) (h1 : D.length ≤ 15) (hu : ∀ c, u.head? = some c → ¬ (48 ≤ c ∧ c ≤ 57) ∧ c ≠ 46) : form (D ++ u) = some (num 0 D, 0, u) := by
  have hd : dg (D ++ u) = D.length := dg_app h (fun c hc => (hu c hc).1)
  have := form_plain (l := D ++ u) (by rw [hd]; omega) (by
    rw [hd, List.drop_left]
    intro hc
    exact (hu 46 hc).2 rfl)
  rw [this, hd, List.take_left, List.drop_left]
theorem form_frac {D F u : List Nat} (h : Dgs D) (h0 : 0 < D.length) (h1 : D.length ≤ 15) (hF : Dgs F) (hF0 : 0 < F.length) (hF1 : F.length ≤ 4) (hu : ∀ c, u.head? = some c → ¬ (48 ≤ c ∧ c ≤ 57)) :
    form (D ++ [46] ++ F ++ u) = some (num 0 (D ++ F), F.length, u) := by
  have e : D ++ [46] ++ F ++ u = D ++ (46 :: (F ++ u)) := by simp
  rw [e]
  have hd : dg (D ++ (46 :: (F ++ u))) = D.length := dg_app h (fun c hc => by
    simp at hc; omega)
  have hr : (D ++ (46 :: (F ++ u))).drop (D.length + 1) = F ++ u := by
    rw [← List.drop_drop, List.drop_left]; rfl
  have hd2 : dg (F ++ u) = F.length := dg_app hF hu
  have := form_point (l := D ++ (46 :: (F ++ u))) (by rw [hd]; omega) (by rw [hd, List.drop_left]; rfl) (by rw [hd, hr, hd2]; omega)
  rw [this, hd, hr, hd2, List.take_left, List.take_left, ← List.drop_drop, hr, List.drop_left]
theorem near_one {V : Nat} (h : V ≤ 70368744177664) : near V 1 = some V := by
  unfold near
  rw [Nat.div_one, Nat.mod_one, if_neg (by omega), if_neg (by omega)]
/-- P8.4 -/
theorem rd_back (m : Nat) (hm : m ≤ 70368744177664) (size : Int) : rd (bl (prS m)) size = ((m : Int), 0) := by
  unfold prS
  by_cases h : m % 65536 = 0
  · rw [if_pos h]
    obtain ⟨h1, h2⟩ := bl_dec (m / 65536)
    have hl : (bl (decS (m / 65536))).length ≤ 15 := by
      rw [bl_length, decS_size]
      exact Nat.le_trans (nDigits_pow 9 _ (by omega)) (by omega)
    have h0 : 0 < (bl (decS (m / 65536))).length := by rw [bl_length, decS_size]; exact Lib.nDigits_pos _
    have hf := form_whole (u := []) h1 h0 hl (fun c hc => by cases hc)
    rw [List.append_nil, h2] at hf
    rw [rd_near hf (n := 65536) (d := 1) rfl (fun e => absurd e.1 (by decide)), Nat.pow_zero, Nat.mul_one, near_one (by omega)]
    show (((m / 65536 * 65536 : Nat) : Int), (0 : Int)) = _
    rw [show m / 65536 * 65536 = m by omega]
  · rw [if_neg h]
    obtain ⟨h1, h2⟩ := bl_dec m
    have hl : (bl (decS m)).length ≤ 15 := by
      rw [bl_length, decS_size]
      exact Nat.le_trans (nDigits_pow 14 _ (by omega)) (by omega)
    have h0 : 0 < (bl (decS m)).length := by rw [bl_length, decS_size]; exact Lib.nDigits_pos _
    have hf := form_whole (u := [115, 112]) h1 h0 hl (fun c hc => by simp at hc; omega)
    rw [h2] at hf
    rw [bl_append]
    rw [rd_near (l := bl (decS m) ++ bl { data := #[115, 112] }) hf (n := 1) (d := 1) rfl (fun e => absurd e.1 (by decide)), Nat.pow_zero, Nat.mul_one, Nat.mul_one, near_one (by omega)]
    rfl

set_option maxRecDepth 100000 in
set_option maxHeartbeats 4000000 in
theorem prints_walk (d size : Int) (hd : -9223372036854775808 ≤ d ∧ d ≤ 9223372036854775807) (hz : -9223372036854775808 ≤ size ∧ size ≤ 9223372036854775807) (w : World) (hU : Ut w) :
    Calls Tryd.prog 4 #[.int .i64 d, .int .i64 size] w fun e w' => e = .returned (.bool true) ∧ Below w.heap.size w w' := by
  have HU := hid hU
  clear hU
  have R1 := hid (fun W (h : Ut W) => print_any d W h)
  have R2 := hid (fun W => refPrint_any d W)
  by_cases hok : 0 ≤ d ∧ d ≤ 70368744177664
  · obtain ⟨m, rfl⟩ : ∃ m : Nat, d = (m : Int) := ⟨d.toNat, by omega⟩
    have hp : prV (m : Int) = .tuple #[.string (prS m), .int .i64 0] := by unfold prV; rw [if_pos hok, Int.toNat_natCast]
    have hb := rd_back m (by omega) size
    have hsz : (prS m).size ≤ 140737488355328 := by
      unfold prS
      split
      · rw [decS_size]; exact Nat.le_trans (nDigits_le (by omega)) (by omega)
      · have : (decS m ++ { data := #[115, 112] } : ByteArray).size = (decS m).size + 2 := by rw [ByteArray.size_append]; rfl
        rw [this, decS_size]; have := nDigits_le (n := m) (by omega); omega
    rw [hp] at R1 R2
    have R3 := hid (fun W (h : Un W) => read_any (prS m) size W hsz hz.1 hz.2 h)
    rw [hb] at R3
    obtain ⟨S, hS⟩ : ∃ S, prS m = S := ⟨_, rfl⟩
    rw [hS] at R1 R2 R3
    clear hp hb hsz hS hok
    go_enter Tryd.func4, Tryd.ntmps4
    go_wp2_with fail
    refine (shown_any _ HU.out).mono ?_
    rintro e w1 ⟨rfl, ho1⟩
    have HU1 := hid (HU.out.only ho1 (by simp))
    go_wp2_with fail
    refine (R1.out _ HU1.out).mono ?_
    rintro e w2 ⟨rfl, ho2⟩
    have HU2 := hid (HU1.out.only ho2 (by simp))
    go_wp2_with fail
    refine (R2.out _).mono ?_
    rintro e w3 ⟨rfl, rfl⟩
    go_wp2_with fail
    refine (R3.out _ HU2.out.un).mono ?_
    rintro e w4 ⟨rfl, ho4⟩
    have HO := hid ((ho1.trans ho2).trans ho4)
    clear ho1 ho2 ho4
    go_wp2_with fail
    go_ret
    exact ⟨rfl, HO.out.below⟩
  · rw [prV_no hok] at R1 R2
    clear hok
    go_enter Tryd.func4, Tryd.ntmps4
    go_wp2_with fail
    refine (shown_any _ HU.out).mono ?_
    rintro e w1 ⟨rfl, ho1⟩
    have HU1 := hid (HU.out.only ho1 (by simp))
    go_wp2_with fail
    refine (R1.out _ HU1.out).mono ?_
    rintro e w2 ⟨rfl, ho2⟩
    go_wp2_with fail
    refine (R2.out _).mono ?_
    rintro e w3 ⟨rfl, rfl⟩
    have HO := hid (ho1.trans ho2)
    clear ho1 ho2
    go_wp2_with fail
    go_ret
    exact ⟨rfl, HO.out.below⟩

set_option maxRecDepth 100000 in
set_option maxHeartbeats 4000000 in
theorem names_walk (w : World) (hU : Ut w) : Calls Tryd.prog 6 #[] w fun e w' => e = .returned (.bool true) ∧ Below w.heap.size w w' := by
  have HU := hid hU
  clear hU
  go_enter Tryd.func6, Tryd.ntmps6
  go_wp2_with fail
  refine (shown_any _ HU.out).mono ?_
  rintro e w1 ⟨rfl, ho1⟩
  have HO := hid ho1
  clear ho1
  go_wp2_with fail
  go_ret
  exact ⟨rfl, HO.out.below⟩
end Go.Proofs.YtapnmopcmlcfbaaDoor
