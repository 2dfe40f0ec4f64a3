/- A length's text: the program's Print and the reference's, and what is read of it. -/
import Derived.Test.YtmlhibcbgdhadaaDoorTab
import Derived.Test.YtmlhibcbgdhadaaDoorUSpec
import Derived.Lib.ItoaNum
namespace Go.Proofs.YtmlhibcbgdhadaaDoor.U
open Go.RowKit Go.Sort
/-- a length -/
def lenB (a : Int) : Bool := decide (0 ≤ a ∧ a ≤ 70368744177664)
theorem lenB_mk {a : Int} (h1 : 0 ≤ a) (h2 : a ≤ 70368744177664) : lenB a = true := by simp [lenB, h1, h2]
theorem lenB_no {a : Int} (h : ¬ (0 ≤ a ∧ a ≤ 70368744177664)) : lenB a = false := by simp only [lenB, decide_eq_false_iff_not]; exact h

set_option maxHeartbeats 400000 in
theorem isLength_any (a : Int) (w : World) :
    Calls Tryd.prog 82 #[.int .i64 a] w fun e w' => e = .returned (.bool (lenB a)) ∧ w' = w := by
  by_cases h1 : 0 ≤ a
  · by_cases h2 : a ≤ 70368744177664
    · go_enter Tryd.func82, Tryd.ntmps82
      go_wp2
      go_ret
      exact ⟨ret_bool (lenB_mk h1 h2).symm, rfl⟩
    · go_enter Tryd.func82, Tryd.ntmps82
      go_wp2
      go_ret
      exact ⟨ret_bool (lenB_no (by omega)).symm, rfl⟩
  · go_enter Tryd.func82, Tryd.ntmps82
    go_wp2
    go_ret
    exact ⟨ret_bool (lenB_no (by omega)).symm, rfl⟩

theorem size_zero {s : ByteArray} (h : s.size = 0) : s = ⟨#[]⟩ := by
  obtain ⟨d⟩ := s
  congr 1
  exact Array.eq_empty_of_size_eq_zero h
theorem nonempty_toList {s : ByteArray} (h : 0 < s.size) : s.toList.isEmpty = false ∧ ¬ s.toList = [] ∧ (s.toList == []) = false ∧ ¬ s = ⟨#[]⟩ := by
  have h2 : ¬ s.toList = [] := by
    intro e
    have h2 := congrArg List.length e
    rw [ByteArray.toList_eq] at h2
    have h3 : s.data.toList.length = s.size := by simp
    simp only [List.length_nil] at h2
    omega
  refine ⟨?_, h2, beq_eq_false_iff_ne.2 h2, fun e => by rw [e] at h; exact absurd h (by decide)⟩
  rcases hl : s.toList with _ | ⟨a, t⟩
  · exact absurd hl h2
  · rfl

theorem only_grow0 (w : World) (k : Nat) (os : Array Obj) : Only [] w (grow (w.drewN k) os) :=
  ⟨rfl, rfl, rfl, by show w.heap.size ≤ (w.heap ++ os).size; rw [Array.size_append]; omega, fun j hj _ => by
    show (w.heap ++ os)[j]? = w.heap[j]?
    rw [Array.getElem?_append_left hj]⟩
/-- a number in digits, as a string -/
def decS (n : Nat) : ByteArray := ⟨(Lib.decDigits n).toArray⟩
theorem decS_size (n : Nat) : (decS n).size = Lib.nDigits n := by rw [← Lib.decDigits_length]; show (Lib.decDigits n).toArray.size = _; simp
theorem nDigits_pow : ∀ (k n : Nat), n < 10 ^ (k + 1) → Lib.nDigits n ≤ k + 1
  | 0, n, h => by rw [Lib.nDigits_small (by simpa using h)]; exact Nat.le_refl _
  | k + 1, n, h => by
    by_cases g : n < 10
    · rw [Lib.nDigits_small g]; omega
    · rw [Lib.nDigits_big g]
      have := nDigits_pow k (n / 10) (by rw [Nat.pow_succ] at h; omega)
      omega
theorem nDigits_le {n : Nat} (h : n < 9223372036854775808) : Lib.nDigits n ≤ 20 := nDigits_pow 19 n (by omega)
theorem decS_big {n : Nat} (h : ¬ n < 10) : decS n = decS (n / 10) ++ decS (n % 10) := by
  unfold decS
  have e : Lib.decDigits n = Lib.decDigits (n / 10) ++ Lib.decDigits (n % 10) := by
    have h1 : Lib.decDigits n = Lib.decDigits (n / 10) ++ [UInt8.ofNat (48 + n % 10)] := by rw [Lib.decDigits, dif_neg h]
    rw [h1, Lib.decDigits_one (i := n % 10) (by omega)]
  rw [e]
  apply ByteArray.ext
  simp
theorem decS_small (n : Nat) (h : n < 10) : ({ data := #[48, 49, 50, 51, 52, 53, 54, 55, 56, 57] } : ByteArray).extract n (n + 1) = decS n := by
  have : ∀ i : Fin 10, ({ data := #[48, 49, 50, 51, 52, 53, 54, 55, 56, 57] } : ByteArray).extract i.val (i.val + 1) = ⟨#[UInt8.ofNat (48 + i.val)]⟩ := by decide +kernel
  unfold decS
  rw [Lib.decDigits_one h]
  exact this ⟨n, h⟩

set_option maxRecDepth 100000 in
set_option maxHeartbeats 4000000 in
theorem refDec_any (n : Nat) : ∀ (w : World), n < 9223372036854775808 → Calls Tryd.prog 78 #[.int .i64 n] w fun e w' => e = .returned (.string (decS n)) ∧ w' = w := by
  induction n using Nat.strongRecOn with
  | _ n ih =>
    intro w hn
    by_cases h : n < 10
    · have hs := decS_small n h
      have h1 : (n : Int) < 10 := by omega
      have h0 : (0 : Int) ≤ (n : Int) := by omega
      have HS := hid hs
      clear hs ih h hn
      go_enter Tryd.func78, Tryd.ntmps78
      go_wp2_with fail
      go_ret
      rw [HS.out]
      exact ⟨rfl, rfl⟩
    · have hb := decS_big h
      have ha := ih (n / 10) (by omega)
      have hc := ih (n % 10) (by omega)
      have hl1 : (decS (n / 10)).size ≤ 20 := by rw [decS_size]; exact nDigits_le (by omega)
      have hl2 : (decS (n % 10)).size ≤ 20 := by rw [decS_size]; exact nDigits_le (by omega)
      have hq : ((n / 10 : Nat) : Int) = (n : Int) / 10 := by omega
      have hr : ((n % 10 : Nat) : Int) = (n : Int) % 10 := by omega
      have HA := hid (fun W => ha W (by omega))
      have HC := hid (fun W => hc W (by omega))
      rw [hq] at HA
      rw [hr] at HC
      obtain ⟨a, hae⟩ : ∃ a, decS (n / 10) = a := ⟨_, rfl⟩
      obtain ⟨c, hce⟩ : ∃ c, decS (n % 10) = c := ⟨_, rfl⟩
      rw [hae] at HA hl1 hb
      rw [hce] at HC hl2 hb
      have HB := hid hb
      have h1 : ¬ (n : Int) < 10 := by omega
      have h0 : (0 : Int) ≤ (n : Int) := by omega
      have h2 : (n : Int) < 9223372036854775808 := by omega
      have h3 : ¬ 9223372036854775807 < a.size + c.size := by omega
      clear ih h hn ha hc hq hr hae hce hb
      go_enter Tryd.func78, Tryd.ntmps78
      go_wp2_with fail
      refine (HA.out _).mono ?_
      rintro e w1 ⟨rfl, rfl⟩
      go_wp2_with fail
      refine (HC.out _).mono ?_
      rintro e w1 ⟨rfl, rfl⟩
      go_wp2_with fail
      go_ret
      rw [HB.out]
      exact ⟨rfl, rfl⟩

/-- a length's text -/
def prS (d : Nat) : ByteArray := if d % 65536 = 0 then decS (d / 65536) else decS d ++ { data := #[115, 112] }
def prV (d : Int) : Value := if 0 ≤ d ∧ d ≤ 70368744177664 then .tuple #[.string (prS d.toNat), .int .i64 0] else .tuple #[.string { data := #[] }, .int .i64 1]
theorem prV_no {d : Int} (h : ¬ (0 ≤ d ∧ d ≤ 70368744177664)) : prV d = .tuple #[.string { data := #[] }, .int .i64 1] := if_neg h
theorem prV_whole {m : Nat} (h : m ≤ 70368744177664) (h2 : m % 65536 = 0) : prV (m : Int) = .tuple #[.string (decS (m / 65536)), .int .i64 0] := by
  unfold prV; rw [if_pos (by omega), Int.toNat_natCast]; unfold prS; rw [if_pos h2]
theorem prV_part {m : Nat} (h : m ≤ 70368744177664) (h2 : ¬ m % 65536 = 0) : prV (m : Int) = .tuple #[.string (decS m ++ { data := #[115, 112] }), .int .i64 0] := by
  unfold prV; rw [if_pos (by omega), Int.toNat_natCast]; unfold prS; rw [if_neg h2]
theorem itoa_c (n : Nat) (w : World) (h : n < 9223372036854775808) (hU : Tt w) : Calls Tryd.prog 75 #[.int .i64 n] w fun e w' => e = .returned (.string (decS n)) ∧ Only [] w w' := by
  refine (Tryd.strconv_Itoa (n : Int) (by omega) (by omega) w hU.tab).mono ?_
  rintro e w' ⟨rfl, k, os, rfl⟩
  refine ⟨?_, only_grow0 _ _ _⟩
  unfold Lib.itoa decS
  rw [if_neg (by omega), Int.toNat_natCast]

set_option maxRecDepth 100000 in
set_option maxHeartbeats 4000000 in
theorem refPrint_any (d : Int) (w : World) :
    Calls Tryd.prog 71 #[.int .i64 d] w fun e w' => e = .returned (prV d) ∧ w' = w := by
  by_cases hd : 0 ≤ d ∧ d ≤ 70368744177664
  · obtain ⟨m, rfl⟩ : ∃ m : Nat, d = (m : Int) := ⟨d.toNat, by omega⟩
    have hm : m ≤ 70368744177664 := by omega
    have h1 : (m : Int) ≤ 70368744177664 := by omega
    have h0 : (0 : Int) ≤ (m : Int) := by omega
    by_cases h2 : m % 65536 = 0
    · have h3 : (m : Int) % 65536 = 0 := by omega
      have HP := hid (prV_whole hm h2)
      have hq : ((m / 65536 : Nat) : Int) = (m : Int) / 65536 := by omega
      have HD := hid (fun W => refDec_any (m / 65536) W (by omega))
      rw [hq] at HD
      clear hd hm h2 hq
      go_enter Tryd.func71, Tryd.ntmps71
      go_wp2_with fail
      refine (HD.out _).mono ?_
      rintro e w1 ⟨rfl, rfl⟩
      go_wp2_with fail
      go_ret2
      rw [HP.out]
      exact ⟨rfl, rfl⟩
    · have h3 : ¬ (m : Int) % 65536 = 0 := by omega
      have HP := hid (prV_part hm h2)
      have HD := hid (fun W => refDec_any m W (by omega))
      have hl : (decS m).size ≤ 20 := by rw [decS_size]; exact nDigits_le (by omega)
      obtain ⟨a, ha⟩ : ∃ a, decS m = a := ⟨_, rfl⟩
      rw [ha] at HP HD hl
      have h5 : ¬ 9223372036854775807 < a.size + 2 := by omega
      clear hd hm h2 ha
      go_enter Tryd.func71, Tryd.ntmps71
      go_wp2_with fail
      refine (HD.out _).mono ?_
      rintro e w1 ⟨rfl, rfl⟩
      go_wp2_with fail
      go_ret2
      rw [HP.out]
      exact ⟨rfl, rfl⟩
  · have HP := hid (prV_no hd)
    have hor : d < 0 ∨ (¬ d < 0 ∧ 70368744177664 < d) := by omega
    clear hd
    rcases hor with h1 | ⟨h1, h2⟩
    all_goals
      go_enter Tryd.func71, Tryd.ntmps71
      go_wp2_with fail
      go_ret2
      rw [HP.out]
      exact ⟨rfl, rfl⟩

set_option maxRecDepth 100000 in
set_option maxHeartbeats 4000000 in
theorem print_any (d : Int) (w : World) (hU : Tt w) :
    Calls Tryd.prog 79 #[.int .i64 d] w fun e w' => e = .returned (prV d) ∧ Only [] w w' := by
  have HU := hid hU
  clear hU
  have HL := hid (fun W => isLength_any d W)
  by_cases hd : 0 ≤ d ∧ d ≤ 70368744177664
  · rw [lenB_mk hd.1 hd.2] at HL
    obtain ⟨m, rfl⟩ : ∃ m : Nat, d = (m : Int) := ⟨d.toNat, by omega⟩
    have hm : m ≤ 70368744177664 := by omega
    have h1 : (m : Int) ≤ 70368744177664 := by omega
    have h0 : (0 : Int) ≤ (m : Int) := by omega
    by_cases h2 : m % 65536 = 0
    · have h3 : (m : Int) % 65536 = 0 := by omega
      have HP := hid (prV_whole hm h2)
      have hq : ((m / 65536 : Nat) : Int) = (m : Int) / 65536 := by omega
      have HD := hid (fun W => itoa_c (m / 65536) W (by omega))
      rw [hq] at HD
      clear hd hm h2 hq
      go_enter Tryd.func79, Tryd.ntmps79
      go_wp2_with fail
      refine (HL.out _).mono ?_
      rintro e w1 ⟨rfl, rfl⟩
      go_wp2_with fail
      refine (HD.out _ HU.out).mono ?_
      rintro e w1 ⟨rfl, ho⟩
      go_wp2_with fail
      go_ret2
      rw [HP.out]
      exact ⟨rfl, ho⟩
    · have h3 : ¬ (m : Int) % 65536 = 0 := by omega
      have HP := hid (prV_part hm h2)
      have HD := hid (fun W => itoa_c m W (by omega))
      have hl : (decS m).size ≤ 20 := by rw [decS_size]; exact nDigits_le (by omega)
      obtain ⟨a, ha⟩ : ∃ a, decS m = a := ⟨_, rfl⟩
      rw [ha] at HP HD hl
      have h5 : ¬ 9223372036854775807 < a.size + 2 := by omega
      clear hd hm h2 ha
      go_enter Tryd.func79, Tryd.ntmps79
      go_wp2_with fail
      refine (HL.out _).mono ?_
      rintro e w1 ⟨rfl, rfl⟩
      go_wp2_with fail
      refine (HD.out _ HU.out).mono ?_
      rintro e w1 ⟨rfl, ho⟩
      have HO := hid ho
      clear ho
      go_wp2_with fail
      go_ret2
      rw [HP.out]
      exact ⟨rfl, HO.out⟩
  · rw [lenB_no hd] at HL
    have HP := hid (prV_no hd)
    clear hd
    go_enter Tryd.func79, Tryd.ntmps79
    go_wp2_with fail
    refine (HL.out _).mono ?_
    rintro e w1 ⟨rfl, rfl⟩
    go_wp2_with fail
    go_ret2
    rw [HP.out]
    exact ⟨rfl, Only.refl _ _⟩

theorem bl_append (a b : ByteArray) : bl (a ++ b) = bl a ++ bl b := by
  unfold bl; rw [ByteArray.data_append, Array.toList_append, List.map_append]

theorem bl_digit (n : Nat) (h : n < 10) : bl (decS n) = [48 + n] := by
  unfold decS bl
  rw [Lib.decDigits_one h]
  have : ∀ i : Fin 10, ((⟨[UInt8.ofNat (48 + i.val)].toArray⟩ : ByteArray).data.toList.map UInt8.toNat) = [48 + i.val] := by decide +kernel
  exact this ⟨n, h⟩
theorem bl_dec (n : Nat) : Dgs (bl (decS n)) ∧ num 0 (bl (decS n)) = n := by
  induction n using Nat.strongRecOn with
  | _ n ih =>
    by_cases h : n < 10
    · rw [bl_digit n h]
      refine ⟨fun c hc => ?_, ?_⟩
      · rw [List.mem_singleton] at hc; omega
      · show 10 * 0 + (48 + n - 48) = n; omega
    · obtain ⟨h1, h2⟩ := ih (n / 10) (by omega)
      rw [decS_big h, bl_append, bl_digit (n % 10) (by omega)]
      refine ⟨h1.app (fun c hc => ?_), ?_⟩
      · rw [List.mem_singleton] at hc; omega
      · rw [num_append, h2]
        show 10 * (n / 10) + (48 + n % 10 - 48) = n
        omega
theorem decS_inj {a b : Nat} (h : bl (decS a) = bl (decS b)) : a = b := by
  rw [← (bl_dec a).2, ← (bl_dec b).2, h]
/-- one text, one length -/
theorem prS_inj {a b : Nat} (h : bl (prS a) = bl (prS b)) : a = b := by
  have hl : ∀ n, (bl (decS n)).getLast? ≠ some 112 := fun n e => by
    have := (bl_dec n).1 112 (List.mem_of_getLast? e)
    omega
  have hs : ∀ n, bl (decS n ++ { data := #[115, 112] }) = bl (decS n) ++ [115, 112] := fun n => by rw [bl_append]; rfl
  unfold prS at h
  split at h <;> split at h
  · have := decS_inj h; omega
  · rw [hs] at h
    exfalso
    refine hl (a / 65536) ?_
    rw [h, List.getLast?_append]
    rfl
  · rw [hs] at h
    exfalso
    refine hl (b / 65536) ?_
    rw [← h, List.getLast?_append]
    rfl
  · rw [hs, hs] at h
    exact decS_inj (List.append_cancel_right h)

end Go.Proofs.YtmlhibcbgdhadaaDoor.U
