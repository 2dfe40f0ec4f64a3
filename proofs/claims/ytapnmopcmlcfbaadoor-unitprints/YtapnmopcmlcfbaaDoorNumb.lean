/- Number, the program's and the reference's; the reference's digits. -/
import Derived.Test.YtapnmopcmlcfbaaDoorVal
namespace Go.Proofs.YtapnmopcmlcfbaaDoor
open Go.RowKit

theorem dg_size (s : ByteArray) : dg (bl s) ≤ s.size := by have := dg_le (bl s); rwa [bl_length] at this
theorem size_of_bl {s : ByteArray} {l : List Nat} (h : bl s = l) : s.size = l.length := by rw [← h, bl_length]
theorem pow_le9 {k : Nat} (h : k ≤ 9) : 10 ^ k ≤ 1000000000 := Nat.pow_le_pow_right (by decide) h
theorem num_le9 {l : List Nat} (h : Dgs l) (hk : l.length ≤ 9) : num 0 l < 1000000000 := Nat.lt_of_lt_of_le (num_lt h) (pow_le9 hk)

set_option maxRecDepth 100000 in
set_option maxHeartbeats 4000000 in
theorem number_any (s : ByteArray) (w : World) (hs : s.size ≤ 140737488355328) :
    Calls Tryd.prog 10 #[.string s] w fun e w' => e = .returned (.tuple #[.int .i64 (nb (bl s)).1, .int .i64 (nb (bl s)).2]) ∧ Only [] w w' := by
  obtain ⟨a, ha⟩ : ∃ a, (nb (bl s)).1 = a := ⟨_, rfl⟩
  obtain ⟨b, hb⟩ : ∃ b, (nb (bl s)).2 = b := ⟨_, rfl⟩
  rw [ha, hb]
  have HA := hid ha
  have HB := hid hb
  clear ha hb
  have hdz := dg_size s
  go_enter Tryd.func10, Tryd.ntmps10
  go_wp2_with fail
  refine (digitsOf_any s w hs).mono ?_
  rintro e w1 ⟨f, r, rfl, hf, hr, ho⟩
  have HF := hid hf
  have HO := hid ho
  have hfs : f.size = dg (bl s) := by rw [size_of_bl hf, List.length_take, bl_length]; omega
  have hrs : r.size = s.size - dg (bl s) := by rw [size_of_bl hr, List.length_drop, bl_length]
  have hfz : f.size ≤ 140737488355328 := by omega
  clear hf hr ho
  by_cases h0 : 0 < r.size
  · obtain ⟨hn1, hn2, hn3, hn4⟩ := nonempty_toList h0
    have HE : Hid (a = 0 ∧ b = 80) := by
      show _ ∧ _
      rw [← HA.out, ← HB.out]; unfold nb; rw [if_pos (by rw [bl_length]; omega)]; exact ⟨rfl, rfl⟩
    clear hfs hrs h0
    go_wp2_with fail
    go_ret2
    rw [HE.out.1, HE.out.2]
    exact ⟨rfl, HO.out⟩
  · obtain rfl := size_zero (s := r) (by omega)
    by_cases h1 : 0 < f.size ∧ (f.size : Int) ≤ 9
    · have hub : upB 9 f = true := by unfold upB; exact decide_eq_true h1
      have HU := hid (fun W => upTo_any 9 f W hfz)
      rw [hub] at HU
      have hdf : Dgs (bl f) := by rw [HF.out]; exact dg_pre _
      have hlt := num_le9 hdf (by rw [bl_length]; omega)
      have HV := hid (fun W => value_any 0 f W hfz hdf (by omega))
      obtain ⟨x, hx⟩ : ∃ x, num 0 (bl f) = x := ⟨_, rfl⟩
      have HE : Hid (a = (x : Int) ∧ b = 0) := by
        show _ ∧ _
        rw [← HA.out, ← HB.out]; unfold nb
        have hz0 : (ByteArray.mk #[]).size = 0 := rfl
        rw [if_neg (by rw [bl_length]; omega), ← HF.out, hx]; exact ⟨rfl, rfl⟩
      rw [hx] at HV hlt
      have hx0 : (0 : Int) ≤ (x : Int) := by omega
      have hx1 : (x : Int) ≤ 1000000000 := by omega
      clear hx hdf h1 hfs hrs h0 hub hlt
      go_wp2_with fail
      refine (HU.out _).mono ?_
      rintro e w2 ⟨rfl, rfl⟩
      go_wp2_with fail
      refine (HV.out _).mono ?_
      rintro e w2 ⟨rfl, ho2⟩
      go_wp2_with fail
      go_ret2
      rw [HE.out.1, HE.out.2]
      exact ⟨rfl, HO.out.trans (ho2.mono (by simp))⟩
    · have hub : upB 9 f = false := by unfold upB; exact decide_eq_false h1
      have HU := hid (fun W => upTo_any 9 f W hfz)
      rw [hub] at HU
      have HE : Hid (a = 0 ∧ b = 80) := by
        show _ ∧ _
        rw [← HA.out, ← HB.out]; unfold nb
        rw [if_pos (by omega)]; exact ⟨rfl, rfl⟩
      clear h1 hfs hrs h0 hub
      go_wp2_with fail
      refine (HU.out _).mono ?_
      rintro e w2 ⟨rfl, rfl⟩
      go_wp2_with fail
      go_ret2
      rw [HE.out.1, HE.out.2]
      exact ⟨rfl, HO.out⟩

theorem byte_at (s : ByteArray) (i : Nat) (h : i < s.size) : (bl s)[i]? = some (s[i]).toNat := bl_get s i h
set_option maxRecDepth 100000 in
set_option maxHeartbeats 4000000 in
theorem refDigits_any (s : ByteArray) (p : Nat) (w : World) (hs : s.size ≤ 140737488355328) (hp : p ≤ s.size) :
    Calls Tryd.prog 20 #[.string s, .int .i64 p] w fun e w' => e = .returned (.int .i64 (dg ((bl s).drop p) : Nat)) ∧ w' = w := by
  have hdl := dg_le ((bl s).drop p)
  rw [List.length_drop, bl_length] at hdl
  go_enter Tryd.func20, Tryd.ntmps20
  go_wp2_with fail
  go_loop [5] (fun n => ∃ k : Nat, k ≤ dg ((bl s).drop p) ∧ n = .int .i64 k) (fun n => s.size - (intOf n).toNat)
  case atStart => exact ⟨0, by omega, rfl⟩
  case round =>
    obtain ⟨k, hk, rfl⟩ := hrel
    by_cases hlt : p + k < s.size
    · have hx1 : (p : Int) + (k : Int) < (s.size : Int) := by omega
      have hx0 : (0 : Int) ≤ (p : Int) + (k : Int) := by omega
      have hs2 : (s.size : Int) ≤ 140737488355328 := by omega
      have hget := byte_at s (p + k) hlt
      by_cases hkd : k < dg ((bl s).drop p)
      · obtain ⟨c, hc, hd1, hd2⟩ := dg_at _ _ hkd
        rw [List.getElem?_drop, hget] at hc
        cases hc
        have h1 : (48 : Int) ≤ ((s[p + k]).toNat : Int) := by omega
        have h2 : ((s[p + k]).toNat : Int) ≤ 57 := by omega
        have HK := hid hkd
        clear hget hd1 hd2 hkd hk
        go_wp2_with fail
        go_round
        case rel => exact ⟨k + 1, HK.out, by go_num⟩
        case measure => simp [intOf]; omega
      · have hke : dg ((bl s).drop p) = k := by omega
        have hn := dg_end ((bl s).drop p) (s[p + k]).toNat (by rw [hke, List.getElem?_drop]; exact hget)
        have hor : ((s[p + k]).toNat : Int) < 48 ∨ ((48 : Int) ≤ ((s[p + k]).toNat : Int) ∧ (57 : Int) < ((s[p + k]).toNat : Int)) := by omega
        have HE := hid hke
        clear hget hn hkd hk hke
        rcases hor with h1 | ⟨h1, h2⟩
        all_goals
          go_wp2_with fail
          go_ret
          exact ⟨ret_int (by rw [HE.out]), rfl⟩
    · have HE : Hid (dg ((bl s).drop p) = k) := by
        show _ = _
        omega
      have hx1 : ¬ (p : Int) + (k : Int) < (s.size : Int) := by omega
      have hx0 : (0 : Int) ≤ (p : Int) + (k : Int) := by omega
      have hx2 : (p : Int) + (k : Int) ≤ 140737488355328 := by omega
      clear hk
      go_wp2_with fail
      go_ret
      exact ⟨ret_int (by rw [HE.out]), rfl⟩

set_option maxRecDepth 100000 in
set_option maxHeartbeats 4000000 in
theorem refNumber_any (s : ByteArray) (w : World) (hs : s.size ≤ 140737488355328) :
    Calls Tryd.prog 11 #[.string s] w fun e w' => e = .returned (.tuple #[.int .i64 (nb (bl s)).1, .int .i64 (nb (bl s)).2]) ∧ w' = w := by
  obtain ⟨a, ha⟩ : ∃ a, (nb (bl s)).1 = a := ⟨_, rfl⟩
  obtain ⟨b, hb⟩ : ∃ b, (nb (bl s)).2 = b := ⟨_, rfl⟩
  rw [ha, hb]
  have HA := hid ha
  have HB := hid hb
  clear ha hb
  have hdz := dg_size s
  have HD := hid (fun W => refDigits_any s 0 W hs (by omega))
  obtain ⟨n, hn⟩ : ∃ n, dg (bl s) = n := ⟨_, rfl⟩
  rw [List.drop_zero, hn] at HD
  rw [hn] at hdz
  have HN := hid hn
  clear hn
  by_cases hok : n < 1 ∨ 9 < n ∨ n < s.size
  · have HE : Hid (a = 0 ∧ b = 80) := by
      show _ ∧ _
      rw [← HA.out, ← HB.out]; unfold nb
      rw [if_pos (by rw [bl_length, HN.out]; exact hok)]; exact ⟨rfl, rfl⟩
    have hor : (n : Int) < 1 ∨ (¬ (n : Int) < 1 ∧ (9 : Int) < (n : Int)) ∨ (¬ (n : Int) < 1 ∧ ¬ (9 : Int) < (n : Int) ∧ (n : Int) < (s.size : Int)) := by omega
    clear hok
    rcases hor with h1 | ⟨h1, h2⟩ | ⟨h1, h2, h3⟩
    all_goals
      go_enter Tryd.func11, Tryd.ntmps11
      go_wp2_with fail
      refine (HD.out _).mono ?_
      rintro e w2 ⟨rfl, rfl⟩
      go_wp2_with fail
      go_ret2
      rw [HE.out.1, HE.out.2]
      exact ⟨rfl, rfl⟩
  · have hz : s.size = n := by omega
    have h1 : ¬ (n : Int) < 1 := by omega
    have h2 : ¬ (9 : Int) < (n : Int) := by omega
    have h3 : ¬ (n : Int) < (s.size : Int) := by omega
    have HE : Hid (a = (num 0 ((bl s).take n) : Nat) ∧ b = 0) := by
      show _ ∧ _
      rw [← HA.out, ← HB.out]; unfold nb
      rw [if_neg (by rw [bl_length, HN.out]; exact hok), HN.out]; exact ⟨rfl, rfl⟩
    have HZ := hid hz
    have hdg : Dgs ((bl s).take n) := by rw [← HN.out]; exact dg_pre _
    have HDG := hid hdg
    have hlt := num_le9 hdg (by rw [List.length_take, bl_length]; omega)
    have HLT := hid hlt
    clear hz hok hdg hlt
    go_enter Tryd.func11, Tryd.ntmps11
    go_wp2_with fail
    refine (HD.out _).mono ?_
    rintro e w2 ⟨rfl, rfl⟩
    go_wp2_with fail
    go_loop [5, 6] (fun u i => ∃ k : Nat, k ≤ n ∧ i = .int .i64 k ∧ u = .int .i64 (num 0 ((bl s).take k) : Nat)) (fun _ i => n - (intOf i).toNat)
    case atStart => exact ⟨0, by omega, rfl, rfl⟩
    case round =>
      obtain ⟨k, hk, rfl, rfl⟩ := hrel
      by_cases hlt : k < n
      · have hks : k < s.size := by have := HZ.out; omega
        have hget := byte_at s k hks
        have hsn := num_snoc 0 hget
        have hc := HDG.out (s[k]).toNat (by
          have : ((bl s).take n)[k]? = some (s[k]).toNat := by rw [List.getElem?_take, if_pos hlt]; exact hget
          exact List.mem_of_getElem? this)
        have hle := num_take_le 0 ((bl s).take n) (k + 1)
        rw [List.take_take, Nat.min_eq_left (by omega), hsn] at hle
        have hmx := HLT.out
        obtain ⟨x, hx⟩ : ∃ x, num 0 ((bl s).take k) = x := ⟨_, rfl⟩
        rw [hx] at hsn hle
        rw [hx]
        have hi : (k : Int) < (n : Int) := by omega
        have h4 : (48 : Int) ≤ ((s[k]).toNat : Int) := by omega
        have h5 : ((s[k]).toNat : Int) ≤ 57 := by omega
        have hx0 : (0 : Int) ≤ (x : Int) := by omega
        have hx1 : (x : Int) ≤ 1000000000 := by omega
        have HSN := hid hsn
        clear hget hsn hc hle hmx hx hlt
        go_wp2_with fail
        go_round
        case rel => exact ⟨k + 1, by omega, by go_num, by rw [HSN.out]; exact congrArg (Value.int IntKind.i64) (by omega)⟩
        case measure => simp [intOf]; omega
      · have hkn : k = n := by omega
        subst hkn
        have hi : ¬ (k : Int) < (k : Int) := by omega
        have HE2 := HE.out
        have HEH := hid HE2
        clear HE2
        go_wp2_with fail
        go_ret2
        rw [HEH.out.1, HEH.out.2]
        exact ⟨rfl, rfl⟩
end Go.Proofs.YtapnmopcmlcfbaaDoor
