/- the reference's unit: a unit's name as a fraction. -/
import Derived.Test.YtapnmopcmlcfbaaDoorUn
namespace Go.Proofs.YtapnmopcmlcfbaaDoor
open Go.RowKit

/-- what the reference's unit answers -/
def refUnV (l : List Nat) (size : Int) : Value :=
  if l = [] ∨ l = [112, 116] then .tuple #[.int .i64 65536, .int .i64 1, .bool true] else if l = [105, 110] then .tuple #[.int .i64 4718592, .int .i64 1, .bool true]
  else if l = [109, 109] then .tuple #[.int .i64 23592960, .int .i64 127, .bool true] else if l = [115, 112] then .tuple #[.int .i64 1, .int .i64 1, .bool true]
  else if l = [101, 109] then .tuple #[.int .i64 size, .int .i64 1, .bool true] else .tuple #[.int .i64 0, .int .i64 0, .bool false]

theorem toList_ne2 {s u : ByteArray} {l : List UInt8} (h : s ≠ u) (hl : u.data.toList = l) : (s.toList == l) = false := by
  refine beq_eq_false_iff_ne.2 (fun e => h ?_)
  rw [ByteArray.toList_eq, ← hl] at e
  cases s; cases u; congr 1; exact Array.ext' e

set_option maxRecDepth 100000 in
set_option maxHeartbeats 4000000 in
theorem refUnit_any (s : ByteArray) (size : Int) (w : World) :
    Calls Tryd.prog 21 #[.string s, .int .i64 size] w fun e w' => e = .returned (refUnV (bl s) size) ∧ w' = w := by
  rcases name_ways s with h | h | h | h | h | h | ⟨hn, h0, h1, h2, h3, h4, h5⟩
  · subst h
    unfold uT0
    go_enter Tryd.func21, Tryd.ntmps21
    go_wp2_with fail
    go_ret3
    exact ⟨rfl, rfl⟩
  · subst h
    unfold uT1
    go_enter Tryd.func21, Tryd.ntmps21
    go_wp2_with fail
    go_ret3
    exact ⟨rfl, rfl⟩
  · subst h
    unfold uT2
    go_enter Tryd.func21, Tryd.ntmps21
    go_wp2_with fail
    go_ret3
    exact ⟨rfl, rfl⟩
  · subst h
    unfold uT3
    go_enter Tryd.func21, Tryd.ntmps21
    go_wp2_with fail
    go_ret3
    exact ⟨rfl, rfl⟩
  · subst h
    unfold uT4
    go_enter Tryd.func21, Tryd.ntmps21
    go_wp2_with fail
    go_ret3
    exact ⟨rfl, rfl⟩
  · subst h
    unfold uT5
    go_enter Tryd.func21, Tryd.ntmps21
    go_wp2_with fail
    go_ret3
    exact ⟨rfl, rfl⟩
  · have e0 : s.toList.isEmpty = false := by
      have := toList_ne2 (l := []) h0 rfl
      rcases hl : s.toList with _ | ⟨a, t⟩
      · rw [hl] at this; cases this
      · rfl
    have e1 := toList_ne2 (l := [112, 116]) h1 rfl
    have e2 := toList_ne2 (l := [105, 110]) h2 rfl
    have e3 := toList_ne2 (l := [109, 109]) h3 rfl
    have e4 := toList_ne2 (l := [115, 112]) h4 rfl
    have e5 := toList_ne2 (l := [101, 109]) h5 rfl
    have HN := hid hn
    clear hn h0 h1 h2 h3 h4 h5
    go_enter Tryd.func21, Tryd.ntmps21
    go_wp2_with fail
    go_ret3
    refine ⟨?_, rfl⟩
    have hn := HN.out
    unfold mea at hn
    unfold refUnV
    repeat' split at hn
    all_goals first | cases hn | skip
    rename_i g0 g1 g2 g3 g4
    rw [if_neg g0, if_neg g1, if_neg g2, if_neg g3, if_neg g4]
    rfl
end Go.Proofs.YtapnmopcmlcfbaaDoor
