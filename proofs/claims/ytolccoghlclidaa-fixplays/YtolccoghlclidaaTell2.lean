import Derived.Test.YtolccoghlclidaaTell
namespace Go.Proofs.Ytolccoghlclidaa
open Go.RowKit

/-- are the first k of the numbers all lengths? -/
def allLen (ls : List Int) : Bool := ls.all lenB
theorem allLen_snoc (ls : List Int) (k : Nat) (h : k < ls.length) : allLen (ls.take (k + 1)) = (allLen (ls.take k) && lenB (ls.getD k 0)) := by
  unfold allLen
  rw [List.take_succ_eq_append_getElem h, List.all_append]
  simp [List.getD, h]
theorem bad_step {bad : Bool} {ls : List Int} {k : Nat} (h : k < ls.length) {b : Bool} (e : lenB ls[k] = b) : (bad || !allLen (ls.take (k + 1))) = ((bad || !allLen (ls.take k)) || !b) := by
  rw [allLen_snoc ls k h, ← e]; simp [List.getD, h]; cases bad <;> cases allLen (ls.take k) <;> simp

/-- what tell answers, and the flag that it leaves -/
def toldV (bad all ok : Bool) (n : Int) : Int := if bad || !all || !ok then 0 else n
def toldB (bad all ok : Bool) : Bool := bad || !all || !ok

set_option maxHeartbeats 400000 in
theorem tell_any (K : Nat) (hK : K = 31 ∨ K = 32 ∨ K = 33) (c : Addr) (bad : Bool) (sb : Nat) (ls : List Int) (v : Value) (n : Int) (ok : Bool) (w : World) (hl : ls.length ≤ 10) (hc : w.cell? c = some (.bool bad)) (hf : w.frozen? c = false) (hcs : c.block < w.heap.size) (hss : sb < w.heap.size) (hne : sb ≠ c.block)
    (hcell : ∀ j, j < ls.length → w.cell? ⟨sb, j, none⟩ = some (.int .i64 (ls.getD j 0)))
    (hask : bad = false → allLen ls = true → ∀ W : World, Calls Try.prog K #[v] W fun e w' => e = .returned (.tuple #[.int .i64 n, .bool ok]) ∧ Below W.heap.size W w') :
    Calls Try.prog 30 #[.pointer (some c), .func (Fn.func K) #[v] #[], .slice (some ⟨sb, 0, none⟩) ls.length ls.length] w fun e w' => e = .returned (.int .i64 (toldV bad (allLen ls) ok n)) ∧ Upd c (toldB bad (allLen ls) ok) w w' := by
  go_enter Try.func30, Try.ntmps30
  go_wp2
  go_loopw [13] (fun i wr => ∃ k : Nat, k ≤ ls.length ∧ i = .int .i64 k ∧ Upd c (bad || !allLen (ls.take k)) w wr) (fun i _ => ls.length - (intOf i).toNat)
  case atStart => exact ⟨0, Nat.zero_le _, rfl, by simpa [allLen] using Upd.refl hc hf⟩
  case round =>
    obtain ⟨k, hk, rfl, hu⟩ := hrel
    have hcl : k < ls.length → wr.cell? ⟨sb, k, none⟩ = some (.int .i64 (ls.getD k 0)) := fun h => (hu.other (d := ⟨sb, k, none⟩) hss hne).trans (hcell k h)
    have hcc := hu.cell
    have hff := hu.froz
    by_cases hlt : k < ls.length
    · have hk' := hcl hlt
      clear hcl hcell hask hc hf
      cases hx : lenB ls[k]
      · have Hx := bad_step (bad := bad) hlt hx
        have HX : Hid ((bad || !allLen (ls.take (k + 1))) = ((bad || !allLen (ls.take k)) || !false)) := Hx
        clear Hx
        go_wp2_with (go_at_call 26; refine (isLength_any _ _).mono ?_; rintro e w' ⟨rfl, rfl⟩)
        go_roundw
        case rel => exact ⟨k + 1, by omega, by go_num, by rw [HX.out]; simpa using hu.set true⟩
        case measure => simp [intOf]; omega
      · have Hx := bad_step (bad := bad) hlt hx
        have HX : Hid ((bad || !allLen (ls.take (k + 1))) = ((bad || !allLen (ls.take k)) || !true)) := Hx
        clear Hx
        go_wp2_with (go_at_call 26; refine (isLength_any _ _).mono ?_; rintro e w' ⟨rfl, rfl⟩)
        go_roundw
        case rel => exact ⟨k + 1, by omega, by go_num, by rw [HX.out]; simpa using hu⟩
        case measure => simp [intOf]; omega
    · have : k = ls.length := by omega
      subst this
      rw [List.take_length] at hu hcc
      clear hcl hcell hlt hc hf
      have HA : Hid (bad = false → allLen ls = true → ∀ W : World, Calls Try.prog K #[v] W fun e w' => e = .returned (.tuple #[.int .i64 n, .bool ok]) ∧ Below W.heap.size W w') := hask
      clear hask
      cases bad
      · cases ha : allLen ls
        · rw [ha] at hu hcc
          go_wp2_with fail
          go_ret
          exact ⟨rfl, hu⟩
        · rw [ha] at hu hcc
          have HA' := HA.out rfl ha
          have HB : Hid (∀ W : World, Calls Try.prog K #[v] W fun e w' => e = .returned (.tuple #[.int .i64 n, .bool ok]) ∧ Below W.heap.size W w') := HA'
          clear HA' HA
          rcases hK with rfl | rfl | rfl
          all_goals
            cases ok
            · go_wp2_with fail
              refine (HB.out _).mono ?_
              rintro e w' ⟨rfl, hb⟩
              have hu2 := hu.below hb hcs
              have hcc2 := hu2.cell
              have hff2 := hu2.froz
              go_wp2
              go_ret
              exact ⟨by rw [ha]; rfl, by rw [ha]; exact hu2.set true⟩
            · go_wp2_with fail
              refine (HB.out _).mono ?_
              rintro e w' ⟨rfl, hb⟩
              have hu2 := hu.below hb hcs
              have hcc2 := hu2.cell
              have hff2 := hu2.froz
              go_wp2
              go_ret
              exact ⟨by rw [ha]; rfl, by rw [ha]; exact hu2⟩
      · go_wp2_with fail
        go_ret
        exact ⟨rfl, hu⟩
end Go.Proofs.Ytolccoghlclidaa
