/- value: the number of digits that stand behind those of n. -/
import Derived.Test.YtapnmopcmlcfbaaDoorDigs
namespace Go.Proofs.YtapnmopcmlcfbaaDoor
open Go.RowKit

theorem num_snoc {l : List Nat} {p c : Nat} (n : Nat) (h : l[p]? = some c) : num n (l.take (p + 1)) = 10 * num n (l.take p) + (c - 48) := by
  obtain ⟨hp, rfl⟩ := List.getElem?_eq_some_iff.1 h
  rw [List.take_succ_eq_append_getElem hp, num_append]
  rfl
theorem num_mono (n : Nat) (l t : List Nat) : num n l ≤ num n (l ++ t) := by
  rw [num_append, num_from (num n l) t]
  have : 1 ≤ 10 ^ t.length := Nat.one_le_pow _ _ (by decide)
  have := Nat.mul_le_mul_left (num n l) this
  omega
theorem num_take_le (n : Nat) (l : List Nat) (k : Nat) : num n (l.take k) ≤ num n l := by
  have := num_mono n (l.take k) (l.drop k)
  rwa [List.take_append_drop] at this

set_option maxRecDepth 100000 in
set_option maxHeartbeats 4000000 in
theorem value_any (n : Nat) (s : ByteArray) (w : World) (hs : s.size ≤ 140737488355328) (hd : Dgs (bl s)) (hb : num n (bl s) ≤ 18446744073709551615) :
    Calls Tryd.prog 24 #[.int .u64 n, .string s] w fun e w' => e = .returned (.int .u64 (num n (bl s))) ∧ Only [] w w' := by
  go_enter Tryd.func24, Tryd.ntmps24
  go_wp2_with fail
  obtain ⟨W1, hW1⟩ : ∃ W1, w.iter s 0 = W1 := ⟨_, rfl⟩
  have HI : Hid (W1.heap[w.heap.size]? = some (.stringIter s 0)) := by
    rw [← hW1]; exact World.iter_heap w s 0
  have HB : Hid (Below w.heap.size w W1) := by rw [← hW1]; exact (Below.refl _ _).alloc (Nat.le_refl _) _
  rw [hW1]
  clear hW1
  obtain ⟨bf, hbf⟩ : ∃ bf, w.heap.size = bf := ⟨_, rfl⟩
  have HBF := hid hbf
  rw [hbf] at HI HB
  rw [hbf]
  clear hbf
  have HBD := hid hb
  clear hb
  go_loopw [0] (fun i wr => ∃ p : Nat, p ≤ s.size ∧ i = .int .u64 (num n ((bl s).take p) : Nat) ∧ wr.heap[bf]? = some (.stringIter s p) ∧ Below bf W1 wr) (fun _ wr => s.size - wr.iterPos bf)
  case atStart => exact ⟨0, by omega, rfl, HI.out, Below.refl _ _⟩
  case round =>
    obtain ⟨p, hp, rfl, hit, hbl⟩ := hrel
    have HBL : Hid (Below bf W1 wr) := hbl
    clear hbl
    by_cases hlt : p < s.size
    · have hnx : ∀ ty, (Instr.next (.pointer (some ⟨bf, 0, none⟩)) true ty).run Tryd.prog wr = _ := fun ty => Lib.run_next_any_at wr bf s p ty hit hlt
      have hit2 := Lib.iterAt_heap wr bf s p (p + (Utf8.decode s p).2) hit
      have HB2 : Hid (Below bf W1 (wr.iterAt bf s (p + (Utf8.decode s p).2))) := Lib.below_iterAt HBL.out (Nat.le_refl _) s _
      have hitp : wr.iterPos bf = p := by simp [World.iterPos, hit]
      have HIT : Hid (wr.iterPos bf = p) := hitp
      clear hitp
      obtain ⟨c, hc⟩ : ∃ c, (bl s)[p]? = some c := ⟨_, List.getElem?_eq_getElem (by rw [bl_length]; exact hlt)⟩
      have hcd := hd c (List.mem_of_getElem? hc)
      have hdec := decode_dig s p c hc (by omega)
      rw [hdec] at hnx hit2 HB2
      simp only at hnx hit2 HB2
      have hsn := num_snoc n hc
      have hle := num_take_le n (bl s) (p + 1)
      have hmx := HBD.out
      rw [hsn] at hle
      obtain ⟨x, hx⟩ : ∃ x, num n ((bl s).take p) = x := ⟨_, rfl⟩
      rw [hx] at hsn hle
      rw [hx]
      obtain ⟨d, hd'⟩ : ∃ d, c = 48 + d := ⟨c - 48, by omega⟩
      subst hd'
      have h9 : d ≤ 9 := by omega
      rw [show 48 + d - 48 = d by omega] at hsn hle
      have HSN := hid hsn
      have HLT := hid hlt
      have hx1 : (10 : Int) * (x : Int) + (d : Int) ≤ 18446744073709551615 := by omega
      have hx0 : (0 : Int) ≤ (x : Int) := by omega
      have hd0 : (0 : Int) ≤ (d : Int) := by omega
      have hd9 : (d : Int) ≤ 9 := by omega
      clear hdec hc hcd hit hsn hle hmx hx hp hlt h9
      generalize wr.iterAt bf s (p + 1) = W2 at *
      go_wp2_with fail
      go_roundw
      case rel => 
        refine ⟨p + 1, HLT.out, ?_, hit2, HB2.out⟩
        rw [HSN.out]
        refine congrArg (Value.int IntKind.u64) ?_
        omega
      case measure =>
        rw [HIT.out]
        simp only [World.iterPos, hit2]
        have := HLT.out
        omega
    · have hnx : ∀ ty, (Instr.next (.pointer (some ⟨bf, 0, none⟩)) true ty).run Tryd.prog wr = _ := fun ty => Lib.run_next_end_at wr bf s p ty hit hlt
      have HE : Hid ((bl s).take p = bl s) := by show _ = _; rw [List.take_of_length_le (by rw [bl_length]; omega)]
      clear hit hlt hp
      go_wp2_with fail
      go_ret
      refine ⟨ret_int (by rw [HE.out]), ?_⟩
      exact Only.ofBelow (by rw [HBF.out]; exact HB.out.trans (HBL.out.mono (Nat.le_refl _)))
end Go.Proofs.YtapnmopcmlcfbaaDoor
