/- What a kind is told as inside, its name, its class: fault.kind, fault.name, fault.class, Located's Unwrap, fault.Name and the reference's Name, as contracts. -/
import Derived.Test.YtnmaoodghbkmcaaDoorChain
namespace Go.Proofs.YtnmaoodghbkmcaaDoor
open Go.RowKit Go.Extern.Stop Go.Stop Go.Extern

/-- what a kind is told as inside -/
def kindV (A : Nat → Addr) (k : Int) : Value :=
  if k = 0 then .nilIface else match info k with
    | some (s, g) => .iface 60 (.agg #[.string s, .iface 90 (.pointer (some (A g)))])
    | none => .iface 61 (.int .i64 k)
/-- its name -/
def nameOf (k : Int) : ByteArray := if k = 0 then { data := #[111, 107] } else match info k with
  | some (s, _) => s
  | none => { data := #[] }
theorem info_none {k : Int} (h20 : ¬ k = 20) (h21 : ¬ k = 21) (h40 : ¬ k = 40) (h60 : ¬ k = 60) (h61 : ¬ k = 61) (h70 : ¬ k = 70) (h71 : ¬ k = 71) (h72 : ¬ k = 72) (h80 : ¬ k = 80) (h81 : ¬ k = 81) (h100 : ¬ k = 100) (h101 : ¬ k = 101) (h102 : ¬ k = 102) (h103 : ¬ k = 103) (h104 : ¬ k = 104) (h105 : ¬ k = 105) (h110 : ¬ k = 110) (h111 : ¬ k = 111) (h120 : ¬ k = 120) (h130 : ¬ k = 130) (h150 : ¬ k = 150) : info k = none := by
  simp [info, tab, *]

set_option maxHeartbeats 4000000 in
theorem kind_any (A : Nat → Addr) (k : Int) (w : World) (hG : Gl A w) :
    Calls Tryd.prog 17 #[.int .i64 k] w fun e w' => e = .returned (kindV A k) ∧ w' = w := by
  have c0 := hG.cell 0 (by decide)
  have c1 := hG.cell 1 (by decide)
  have c2 := hG.cell 2 (by decide)
  have c3 := hG.cell 3 (by decide)
  have c4 := hG.cell 4 (by decide)
  have c5 := hG.cell 5 (by decide)
  by_cases h0 : k = 0
  · subst h0
    go_enter Tryd.func17, Tryd.ntmps17
    go_wp2
    go_ret
    exact ⟨rfl, rfl⟩
  by_cases h20 : k = 20
  · subst h20
    go_enter Tryd.func17, Tryd.ntmps17
    go_wp2
    go_ret
    exact ⟨rfl, rfl⟩
  by_cases h21 : k = 21
  · subst h21
    go_enter Tryd.func17, Tryd.ntmps17
    go_wp2
    go_ret
    exact ⟨rfl, rfl⟩
  by_cases h40 : k = 40
  · subst h40
    go_enter Tryd.func17, Tryd.ntmps17
    go_wp2
    go_ret
    exact ⟨rfl, rfl⟩
  by_cases h60 : k = 60
  · subst h60
    go_enter Tryd.func17, Tryd.ntmps17
    go_wp2
    go_ret
    exact ⟨rfl, rfl⟩
  by_cases h61 : k = 61
  · subst h61
    go_enter Tryd.func17, Tryd.ntmps17
    go_wp2
    go_ret
    exact ⟨rfl, rfl⟩
  by_cases h70 : k = 70
  · subst h70
    go_enter Tryd.func17, Tryd.ntmps17
    go_wp2
    go_ret
    exact ⟨rfl, rfl⟩
  by_cases h71 : k = 71
  · subst h71
    go_enter Tryd.func17, Tryd.ntmps17
    go_wp2
    go_ret
    exact ⟨rfl, rfl⟩
  by_cases h72 : k = 72
  · subst h72
    go_enter Tryd.func17, Tryd.ntmps17
    go_wp2
    go_ret
    exact ⟨rfl, rfl⟩
  by_cases h80 : k = 80
  · subst h80
    go_enter Tryd.func17, Tryd.ntmps17
    go_wp2
    go_ret
    exact ⟨rfl, rfl⟩
  by_cases h81 : k = 81
  · subst h81
    go_enter Tryd.func17, Tryd.ntmps17
    go_wp2
    go_ret
    exact ⟨rfl, rfl⟩
  by_cases h100 : k = 100
  · subst h100
    go_enter Tryd.func17, Tryd.ntmps17
    go_wp2
    go_ret
    exact ⟨rfl, rfl⟩
  by_cases h101 : k = 101
  · subst h101
    go_enter Tryd.func17, Tryd.ntmps17
    go_wp2
    go_ret
    exact ⟨rfl, rfl⟩
  by_cases h102 : k = 102
  · subst h102
    go_enter Tryd.func17, Tryd.ntmps17
    go_wp2
    go_ret
    exact ⟨rfl, rfl⟩
  by_cases h103 : k = 103
  · subst h103
    go_enter Tryd.func17, Tryd.ntmps17
    go_wp2
    go_ret
    exact ⟨rfl, rfl⟩
  by_cases h104 : k = 104
  · subst h104
    go_enter Tryd.func17, Tryd.ntmps17
    go_wp2
    go_ret
    exact ⟨rfl, rfl⟩
  by_cases h105 : k = 105
  · subst h105
    go_enter Tryd.func17, Tryd.ntmps17
    go_wp2
    go_ret
    exact ⟨rfl, rfl⟩
  by_cases h110 : k = 110
  · subst h110
    go_enter Tryd.func17, Tryd.ntmps17
    go_wp2
    go_ret
    exact ⟨rfl, rfl⟩
  by_cases h111 : k = 111
  · subst h111
    go_enter Tryd.func17, Tryd.ntmps17
    go_wp2
    go_ret
    exact ⟨rfl, rfl⟩
  by_cases h120 : k = 120
  · subst h120
    go_enter Tryd.func17, Tryd.ntmps17
    go_wp2
    go_ret
    exact ⟨rfl, rfl⟩
  by_cases h130 : k = 130
  · subst h130
    go_enter Tryd.func17, Tryd.ntmps17
    go_wp2
    go_ret
    exact ⟨rfl, rfl⟩
  by_cases h150 : k = 150
  · subst h150
    go_enter Tryd.func17, Tryd.ntmps17
    go_wp2
    go_ret
    exact ⟨rfl, rfl⟩
  have hz : kindV A k = .iface 61 (.int .i64 k) := by
    unfold kindV
    rw [if_neg h0, info_none h20 h21 h40 h60 h61 h70 h71 h72 h80 h81 h100 h101 h102 h103 h104 h105 h110 h111 h120 h130 h150]
  have HZ : Hid (kindV A k = .iface 61 (.int .i64 k)) := hz
  clear hz
  go_enter Tryd.func17, Tryd.ntmps17
  go_wp2
  go_ret
  exact ⟨by rw [HZ.out]; rfl, rfl⟩
end Go.Proofs.YtnmaoodghbkmcaaDoor
