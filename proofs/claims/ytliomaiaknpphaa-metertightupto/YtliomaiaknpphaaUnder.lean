import Derived.Test.YtliomaiaknpphaaActs
namespace Go.Proofs.Ytliomaiaknpphaa
open Go.RowKit

set_option maxHeartbeats 1000000 in
theorem under_any (S C : Int) (s0 : 0 ≤ S) (c0 : 0 ≤ C) (s1 : S ≤ 9223372036854775807) (c1 : C ≤ 9223372036854775807) (b off len cap : Nat) (f : Nat → Int × Int × Int) (w : World) (hlen : len ≤ 9223372036854775807) (hbw : b < w.heap.size) (hA : Acts w b off len f) :
    Calls Try.prog 24 #[.int .i64 S, .int .i64 C, .slice (some ⟨b, off, none⟩) len cap] w fun e w' => e = .returned (.tuple #[.int .i64 ((goes 0 ⟨S, C, 0, 0, 0, 0⟩ (rowOf f len)).1 : Nat), .pointer (some ⟨w.heap.size, 0, none⟩)]) ∧ Blk w' w.heap.size (goes 0 ⟨S, C, 0, 0, 0, 0⟩ (rowOf f len)).2.cells 52 ∧ Only [] w w' := by
  have hm : (M.mk S C 0 0 0 0).Ok := ⟨by simp, s0, s1, by simp, by simp, c0, c1⟩
  obtain ⟨G, hG⟩ : ∃ G, goes 0 ⟨S, C, 0, 0, 0, 0⟩ (rowOf f len) = G := ⟨_, rfl⟩
  rw [hG]
  have HA := hidden hA
  have HG := hidden hG
  have HM := hidden hm
  clear hA hG hm
  go_enter Try.func24, Try.ntmps24
  go_wp2_with (go_at_call 8; refine (new_yes S C _ s0 c0).mono ?_; rintro e w1 ⟨rfl, rfl⟩)
  have hB := Blk.new w (M.cells ⟨S, C, 0, 0, 0, 0⟩).toArray 52 rfl
  have hO := (Only.refl [w.heap.size] w).alloc (.cells (M.cells ⟨S, C, 0, 0, 0, 0⟩).toArray 52)
  obtain ⟨W, hW⟩ : ∃ W, w.alloc (.cells (M.cells ⟨S, C, 0, 0, 0, 0⟩).toArray 52) = W := ⟨_, rfl⟩
  obtain ⟨g, hg⟩ : ∃ g, w.heap.size = g := ⟨_, rfl⟩
  rw [hW, hg] at hB hO
  rw [hW, hg]
  have hbg : b ≠ g := by omega
  have hwg := hidden hg
  clear hW hg
  have HB := hidden hB
  have HO := hidden hO
  clear hB hO
  go_loopw [26] (fun vi wr => ∃ (i : Nat) (m : M), vi = .int .i64 i ∧ i ≤ len ∧ m.Ok ∧ goes i m ((rowOf f len).drop i) = G ∧ Blk wr g m.cells 52 ∧ Only [g] w wr) (fun vi _ => len - (intOf vi).toNat)
  case atStart => exact ⟨0, _, rfl, Nat.zero_le _, HM.out, HG.out, HB.out, HO.out⟩
  case round =>
    obtain ⟨i, m, rfl, hi, hmok, hgo, hb, ho⟩ := hrel
    clear HB HO HM HG
    by_cases hlt : i < len
    · have hact := HA.out.keep ho (by simpa using hbg) i hlt
      rw [rowOf_drop f len i hlt] at hgo
      have hok : ∀ r, goes i m (redo (f i) :: r) = if actOk m (amg (f i).1 3) (amg (f i).2.2 1048576) = true then goes (i + 1) (actM m (amg (f i).1 3) (amg (f i).2.2 1048576)) r else (i, actM m (amg (f i).1 3) (amg (f i).2.2 1048576)) := fun r => rfl
      rw [hok] at hgo
      clear hok
      obtain ⟨a0, a1, a2, _, _, _⟩ := hact
      have hmo := act_ok hmok (amg (f i).1 3) (amg (f i).2.2 1048576)
      have HD := hidden fun W => does_any m hmok g (f i).1 (f i).2.1 (f i).2.2 W
      obtain ⟨o, ho1⟩ : ∃ o, actOk m (amg (f i).1 3) (amg (f i).2.2 1048576) = o := ⟨_, rfl⟩
      obtain ⟨m2, hm2⟩ : ∃ m2, actM m (amg (f i).1 3) (amg (f i).2.2 1048576) = m2 := ⟨_, rfl⟩
      rw [ho1, hm2] at HD hgo
      rw [hm2] at hmo
      clear ho1 hm2 hmok
      obtain ⟨k, hk⟩ : ∃ k, (f i).1 = k := ⟨_, rfl⟩
      obtain ⟨x, hx⟩ : ∃ x, (f i).2.1 = x := ⟨_, rfl⟩
      obtain ⟨n, hn⟩ : ∃ n, (f i).2.2 = n := ⟨_, rfl⟩
      rw [hk] at a0
      rw [hx] at a1
      rw [hn] at a2
      rw [hk, hx, hn] at HD
      clear hk hx hn
      have hb := hidden hb
      have ho := hidden ho
      have hmo := hidden hmo
      have hgo := hidden hgo
      cases o
      · go_wp2_with (go_at_call 31; refine (HD.out _ (by exact hb.out.alloc _)).mono ?_; rintro e w1 ⟨rfl, h1, h2⟩)
        go_ret2
        have hG := hgo.out
        simp at hG
        subst hG
        have hw := hwg.out
        subst hw
        refine ⟨rfl, h1, ?_⟩
        exact ((ho.out.alloc _).trans h2).mono fun k hk h => by simp at h; omega
      · go_wp2_with (go_at_call 31; refine (HD.out _ (by exact hb.out.alloc _)).mono ?_; rintro e w1 ⟨rfl, h1, h2⟩)
        go_roundw
        case rel => exact ⟨i + 1, m2, by go_num, by omega, hmo.out, by have := hgo.out; simpa using this, h1, (ho.out.alloc _).trans h2⟩
        case measure => simp [intOf]; omega
    · have hil : i = len := by omega
      subst hil
      have hgo2 : goes i m [] = G := by rw [← hgo, List.drop_eq_nil_of_le (by rw [rowOf_len]; exact Nat.le_refl _)]
      have hgo := hidden hgo2
      have hb := hidden hb
      have ho := hidden ho
      clear hgo2
      go_wp2_with fail
      go_ret2
      have hG := hgo.out
      simp [goes] at hG
      subst hG
      have hw := hwg.out
      subst hw
      exact ⟨rfl, hb.out, ho.out.mono fun k hk h => by simp at h; omega⟩
end Go.Proofs.Ytliomaiaknpphaa
