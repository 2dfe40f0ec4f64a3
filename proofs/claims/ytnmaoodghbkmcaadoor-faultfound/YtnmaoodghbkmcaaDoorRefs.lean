/- The reference's Name and Class, the law's row of the six errors, and an error's text, as contracts. -/
import Derived.Test.YtnmaoodghbkmcaaDoorTells
namespace Go.Proofs.YtnmaoodghbkmcaaDoor
open Go.RowKit

/-- the reference's number of a class -/
def numOf : Option Nat → Int
  | none => 0
  | some 2 => 1
  | some 0 => 2
  | some 1 => 3
  | some g => g + 1

set_option maxHeartbeats 4000000 in
theorem refName (k : Int) (w : World) : Calls Tryd.prog 10 #[.int .i64 k] w fun e w' => e = .returned (.string (nameOf k)) ∧ w' = w := by
  by_cases h0 : k = 0
  · subst h0
    go_enter Tryd.func10, Tryd.ntmps10
    go_wp2
    go_ret
    exact ⟨rfl, rfl⟩
  by_cases h20 : k = 20
  · subst h20
    go_enter Tryd.func10, Tryd.ntmps10
    go_wp2
    go_ret
    exact ⟨rfl, rfl⟩
  by_cases h21 : k = 21
  · subst h21
    go_enter Tryd.func10, Tryd.ntmps10
    go_wp2
    go_ret
    exact ⟨rfl, rfl⟩
  by_cases h40 : k = 40
  · subst h40
    go_enter Tryd.func10, Tryd.ntmps10
    go_wp2
    go_ret
    exact ⟨rfl, rfl⟩
  by_cases h60 : k = 60
  · subst h60
    go_enter Tryd.func10, Tryd.ntmps10
    go_wp2
    go_ret
    exact ⟨rfl, rfl⟩
  by_cases h61 : k = 61
  · subst h61
    go_enter Tryd.func10, Tryd.ntmps10
    go_wp2
    go_ret
    exact ⟨rfl, rfl⟩
  by_cases h70 : k = 70
  · subst h70
    go_enter Tryd.func10, Tryd.ntmps10
    go_wp2
    go_ret
    exact ⟨rfl, rfl⟩
  by_cases h71 : k = 71
  · subst h71
    go_enter Tryd.func10, Tryd.ntmps10
    go_wp2
    go_ret
    exact ⟨rfl, rfl⟩
  by_cases h72 : k = 72
  · subst h72
    go_enter Tryd.func10, Tryd.ntmps10
    go_wp2
    go_ret
    exact ⟨rfl, rfl⟩
  by_cases h80 : k = 80
  · subst h80
    go_enter Tryd.func10, Tryd.ntmps10
    go_wp2
    go_ret
    exact ⟨rfl, rfl⟩
  by_cases h81 : k = 81
  · subst h81
    go_enter Tryd.func10, Tryd.ntmps10
    go_wp2
    go_ret
    exact ⟨rfl, rfl⟩
  by_cases h100 : k = 100
  · subst h100
    go_enter Tryd.func10, Tryd.ntmps10
    go_wp2
    go_ret
    exact ⟨rfl, rfl⟩
  by_cases h101 : k = 101
  · subst h101
    go_enter Tryd.func10, Tryd.ntmps10
    go_wp2
    go_ret
    exact ⟨rfl, rfl⟩
  by_cases h102 : k = 102
  · subst h102
    go_enter Tryd.func10, Tryd.ntmps10
    go_wp2
    go_ret
    exact ⟨rfl, rfl⟩
  by_cases h103 : k = 103
  · subst h103
    go_enter Tryd.func10, Tryd.ntmps10
    go_wp2
    go_ret
    exact ⟨rfl, rfl⟩
  by_cases h104 : k = 104
  · subst h104
    go_enter Tryd.func10, Tryd.ntmps10
    go_wp2
    go_ret
    exact ⟨rfl, rfl⟩
  by_cases h105 : k = 105
  · subst h105
    go_enter Tryd.func10, Tryd.ntmps10
    go_wp2
    go_ret
    exact ⟨rfl, rfl⟩
  by_cases h110 : k = 110
  · subst h110
    go_enter Tryd.func10, Tryd.ntmps10
    go_wp2
    go_ret
    exact ⟨rfl, rfl⟩
  by_cases h111 : k = 111
  · subst h111
    go_enter Tryd.func10, Tryd.ntmps10
    go_wp2
    go_ret
    exact ⟨rfl, rfl⟩
  by_cases h120 : k = 120
  · subst h120
    go_enter Tryd.func10, Tryd.ntmps10
    go_wp2
    go_ret
    exact ⟨rfl, rfl⟩
  by_cases h130 : k = 130
  · subst h130
    go_enter Tryd.func10, Tryd.ntmps10
    go_wp2
    go_ret
    exact ⟨rfl, rfl⟩
  by_cases h150 : k = 150
  · subst h150
    go_enter Tryd.func10, Tryd.ntmps10
    go_wp2
    go_ret
    exact ⟨rfl, rfl⟩
  have hz : (.string (nameOf k) : Value) = .string { data := #[] } := by
    unfold nameOf
    rw [if_neg h0, info_none h20 h21 h40 h60 h61 h70 h71 h72 h80 h81 h100 h101 h102 h103 h104 h105 h110 h111 h120 h130 h150]
  have HZ : Hid ((.string (nameOf k) : Value) = .string { data := #[] }) := hz
  clear hz
  go_enter Tryd.func10, Tryd.ntmps10
  go_wp2
  go_ret
  exact ⟨by rw [HZ.out]; rfl, rfl⟩

set_option maxHeartbeats 4000000 in
theorem refClass (k : Int) (w : World) : Calls Tryd.prog 14 #[.int .i64 k] w fun e w' => e = .returned (.int .i64 (numOf (clsOf k))) ∧ w' = w := by
  by_cases h0 : k = 0
  · subst h0
    go_enter Tryd.func14, Tryd.ntmps14
    go_wp2
    go_ret
    exact ⟨rfl, rfl⟩
  by_cases h20 : k = 20
  · subst h20
    go_enter Tryd.func14, Tryd.ntmps14
    go_wp2
    go_ret
    exact ⟨rfl, rfl⟩
  by_cases h21 : k = 21
  · subst h21
    go_enter Tryd.func14, Tryd.ntmps14
    go_wp2
    go_ret
    exact ⟨rfl, rfl⟩
  by_cases h40 : k = 40
  · subst h40
    go_enter Tryd.func14, Tryd.ntmps14
    go_wp2
    go_ret
    exact ⟨rfl, rfl⟩
  by_cases h60 : k = 60
  · subst h60
    go_enter Tryd.func14, Tryd.ntmps14
    go_wp2
    go_ret
    exact ⟨rfl, rfl⟩
  by_cases h61 : k = 61
  · subst h61
    go_enter Tryd.func14, Tryd.ntmps14
    go_wp2
    go_ret
    exact ⟨rfl, rfl⟩
  by_cases h70 : k = 70
  · subst h70
    go_enter Tryd.func14, Tryd.ntmps14
    go_wp2
    go_ret
    exact ⟨rfl, rfl⟩
  by_cases h71 : k = 71
  · subst h71
    go_enter Tryd.func14, Tryd.ntmps14
    go_wp2
    go_ret
    exact ⟨rfl, rfl⟩
  by_cases h72 : k = 72
  · subst h72
    go_enter Tryd.func14, Tryd.ntmps14
    go_wp2
    go_ret
    exact ⟨rfl, rfl⟩
  by_cases h80 : k = 80
  · subst h80
    go_enter Tryd.func14, Tryd.ntmps14
    go_wp2
    go_ret
    exact ⟨rfl, rfl⟩
  by_cases h81 : k = 81
  · subst h81
    go_enter Tryd.func14, Tryd.ntmps14
    go_wp2
    go_ret
    exact ⟨rfl, rfl⟩
  by_cases h100 : k = 100
  · subst h100
    go_enter Tryd.func14, Tryd.ntmps14
    go_wp2
    go_ret
    exact ⟨rfl, rfl⟩
  by_cases h101 : k = 101
  · subst h101
    go_enter Tryd.func14, Tryd.ntmps14
    go_wp2
    go_ret
    exact ⟨rfl, rfl⟩
  by_cases h102 : k = 102
  · subst h102
    go_enter Tryd.func14, Tryd.ntmps14
    go_wp2
    go_ret
    exact ⟨rfl, rfl⟩
  by_cases h103 : k = 103
  · subst h103
    go_enter Tryd.func14, Tryd.ntmps14
    go_wp2
    go_ret
    exact ⟨rfl, rfl⟩
  by_cases h104 : k = 104
  · subst h104
    go_enter Tryd.func14, Tryd.ntmps14
    go_wp2
    go_ret
    exact ⟨rfl, rfl⟩
  by_cases h105 : k = 105
  · subst h105
    go_enter Tryd.func14, Tryd.ntmps14
    go_wp2
    go_ret
    exact ⟨rfl, rfl⟩
  by_cases h110 : k = 110
  · subst h110
    go_enter Tryd.func14, Tryd.ntmps14
    go_wp2
    go_ret
    exact ⟨rfl, rfl⟩
  by_cases h111 : k = 111
  · subst h111
    go_enter Tryd.func14, Tryd.ntmps14
    go_wp2
    go_ret
    exact ⟨rfl, rfl⟩
  by_cases h120 : k = 120
  · subst h120
    go_enter Tryd.func14, Tryd.ntmps14
    go_wp2
    go_ret
    exact ⟨rfl, rfl⟩
  by_cases h130 : k = 130
  · subst h130
    go_enter Tryd.func14, Tryd.ntmps14
    go_wp2
    go_ret
    exact ⟨rfl, rfl⟩
  by_cases h150 : k = 150
  · subst h150
    go_enter Tryd.func14, Tryd.ntmps14
    go_wp2
    go_ret
    exact ⟨rfl, rfl⟩
  have hz : (.int .i64 (numOf (clsOf k)) : Value) = .int .i64 0 := by
    unfold clsOf
    rw [info_none h20 h21 h40 h60 h61 h70 h71 h72 h80 h81 h100 h101 h102 h103 h104 h105 h110 h111 h120 h130 h150]
    rfl
  have HZ : Hid ((.int .i64 (numOf (clsOf k)) : Value) = .int .i64 0) := hz
  clear hz
  go_enter Tryd.func14, Tryd.ntmps14
  go_wp2
  go_ret
  exact ⟨by rw [HZ.out]; rfl, rfl⟩

theorem errText (a : Addr) (s : ByteArray) (w : World) (h : w.cell? a = some (.string s)) : Calls Tryd.prog 85 #[.pointer (some a)] w fun e w' => e = .returned (.string s) ∧ w' = w := by
  cases a with
  | mk b o sp =>
    go_enter Tryd.func85, Tryd.ntmps85
    go_wp2
    go_ret
    exact ⟨rfl, rfl⟩

/-- the six errors in the law's order -/
def six (A : Nat → Addr) : List Value := [.iface 90 (.pointer (some (A 2))), .iface 90 (.pointer (some (A 0))), .iface 90 (.pointer (some (A 1))), .iface 90 (.pointer (some (A 3))), .iface 90 (.pointer (some (A 4))), .iface 90 (.pointer (some (A 5)))]
theorem classes_any (A : Nat → Addr) (w : World) (hG : Gl A w) : Calls Tryd.prog 8 #[] w fun e w' => e = .returned (.slice (some ⟨w.heap.size, 0, none⟩) 6 6) ∧ Blk w' w.heap.size (six A) 27 ∧ Only [] w w' := by
  have c0 := hG.cell 0 (by decide)
  have c1 := hG.cell 1 (by decide)
  have c2 := hG.cell 2 (by decide)
  have c3 := hG.cell 3 (by decide)
  have c4 := hG.cell 4 (by decide)
  have c5 := hG.cell 5 (by decide)
  go_enter Tryd.func8, Tryd.ntmps8
  go_wp2
  go_ret
  exact ⟨rfl, Blk.new _ _ _ rfl, (Only.refl _ _).alloc _⟩
end Go.Proofs.YtnmaoodghbkmcaaDoor
