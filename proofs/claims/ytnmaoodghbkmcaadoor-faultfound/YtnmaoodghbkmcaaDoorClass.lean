/- fault.class and Located's Unwrap as contracts. -/
import Derived.Test.YtnmaoodghbkmcaaDoorIs
namespace Go.Proofs.YtnmaoodghbkmcaaDoor
open Go.RowKit Go.Extern.Stop Go.Stop Go.Extern

set_option maxHeartbeats 4000000 in
theorem class_nil (A : Nat → Addr) (w : World) (hG : Gl A w) : Calls Tryd.prog 24 #[.nilIface] w fun e w' => e = .returned .nilIface ∧ w' = w := by
  have c0 := hG.cell 0 (by decide)
  have c1 := hG.cell 1 (by decide)
  have c2 := hG.cell 2 (by decide)
  have c3 := hG.cell 3 (by decide)
  have c4 := hG.cell 4 (by decide)
  have c5 := hG.cell 5 (by decide)
  go_enter Tryd.func24, Tryd.ntmps24
  go_wp2_with fail
  refine (is_nil (A 2) _).mono ?_
  rintro e w' ⟨rfl, rfl⟩
  go_wp2_with fail
  refine (is_nil (A 0) _).mono ?_
  rintro e w' ⟨rfl, rfl⟩
  go_wp2_with fail
  refine (is_nil (A 1) _).mono ?_
  rintro e w' ⟨rfl, rfl⟩
  go_wp2_with fail
  refine (is_nil (A 3) _).mono ?_
  rintro e w' ⟨rfl, rfl⟩
  go_wp2_with fail
  refine (is_nil (A 4) _).mono ?_
  rintro e w' ⟨rfl, rfl⟩
  go_wp2_with fail
  refine (is_nil (A 5) _).mono ?_
  rintro e w' ⟨rfl, rfl⟩
  go_wp2_with fail
  go_ret
  exact ⟨rfl, rfl⟩

set_option maxHeartbeats 4000000 in
theorem class_number (A : Nat → Addr) (k : Int) (w : World) (hG : Gl A w) : Calls Tryd.prog 24 #[.iface 61 (.int .i64 k)] w fun e w' => e = .returned .nilIface ∧ Only [] w w' := by
  have HG : Hid (Gl A w) := hG
  have c2 := hG.cell 2 (by decide)
  clear hG
  go_enter Tryd.func24, Tryd.ntmps24
  go_wp2_with fail
  refine (is_any (A := A) (L := false) 2 false (by simp) HG.out (by decide) (.number k) (by decide)).mono ?_
  rintro e w0 ⟨rfl, ho0⟩
  have HG1 : Hid (Gl A w0) := HG.out.only ho0
  have c0 := HG1.out.cell 0 (by decide)
  go_wp2_with fail
  refine (is_any (A := A) (L := false) 0 false (by simp) HG1.out (by decide) (.number k) (by decide)).mono ?_
  rintro e w1 ⟨rfl, ho1'⟩
  have ho1 := ho0.trans ho1'
  clear ho1'
  have HG2 : Hid (Gl A w1) := HG.out.only ho1
  have c1 := HG2.out.cell 1 (by decide)
  go_wp2_with fail
  refine (is_any (A := A) (L := false) 1 false (by simp) HG2.out (by decide) (.number k) (by decide)).mono ?_
  rintro e w2 ⟨rfl, ho2'⟩
  have ho2 := ho1.trans ho2'
  clear ho2'
  have HG3 : Hid (Gl A w2) := HG.out.only ho2
  have c3 := HG3.out.cell 3 (by decide)
  go_wp2_with fail
  refine (is_any (A := A) (L := false) 3 false (by simp) HG3.out (by decide) (.number k) (by decide)).mono ?_
  rintro e w3 ⟨rfl, ho3'⟩
  have ho3 := ho2.trans ho3'
  clear ho3'
  have HG4 : Hid (Gl A w3) := HG.out.only ho3
  have c4 := HG4.out.cell 4 (by decide)
  go_wp2_with fail
  refine (is_any (A := A) (L := false) 4 false (by simp) HG4.out (by decide) (.number k) (by decide)).mono ?_
  rintro e w4 ⟨rfl, ho4'⟩
  have ho4 := ho3.trans ho4'
  clear ho4'
  have HG5 : Hid (Gl A w4) := HG.out.only ho4
  have c5 := HG5.out.cell 5 (by decide)
  go_wp2_with fail
  refine (is_any (A := A) (L := false) 5 false (by simp) HG5.out (by decide) (.number k) (by decide)).mono ?_
  rintro e w5 ⟨rfl, ho5'⟩
  have ho5 := ho4.trans ho5'
  clear ho5'
  go_wp2_with fail
  go_ret
  exact ⟨rfl, ho5⟩

set_option maxHeartbeats 4000000 in
theorem class_known2 (A : Nat → Addr) (s : ByteArray) (w : World) (hG : Gl A w) : Calls Tryd.prog 24 #[.iface 60 (.agg #[.string s, .iface 90 (.pointer (some (A 2)))])] w fun e w' => e = .returned (.iface 90 (.pointer (some (A 2)))) ∧ Only [] w w' := by
  have HG : Hid (Gl A w) := hG
  have c2 := hG.cell 2 (by decide)
  clear hG
  go_enter Tryd.func24, Tryd.ntmps24
  go_wp2_with fail
  refine (is_any (A := A) (L := false) 2 true (by simp) HG.out (by decide) (.known s _ 2 (by decide) rfl) (by decide)).mono ?_
  rintro e w0 ⟨rfl, ho0⟩
  have HG1 : Hid (Gl A w0) := HG.out.only ho0
  have c2x := HG1.out.cell 2 (by decide)
  go_wp2_with fail
  go_ret
  exact ⟨rfl, ho0⟩

set_option maxHeartbeats 4000000 in
theorem class_known0 (A : Nat → Addr) (s : ByteArray) (w : World) (hG : Gl A w) : Calls Tryd.prog 24 #[.iface 60 (.agg #[.string s, .iface 90 (.pointer (some (A 0)))])] w fun e w' => e = .returned (.iface 90 (.pointer (some (A 0)))) ∧ Only [] w w' := by
  have HG : Hid (Gl A w) := hG
  have c2 := hG.cell 2 (by decide)
  clear hG
  go_enter Tryd.func24, Tryd.ntmps24
  go_wp2_with fail
  refine (is_any (A := A) (L := false) 2 false (by simp) HG.out (by decide) (.known s _ 0 (by decide) rfl) (by decide)).mono ?_
  rintro e w0 ⟨rfl, ho0⟩
  have HG1 : Hid (Gl A w0) := HG.out.only ho0
  have c0 := HG1.out.cell 0 (by decide)
  go_wp2_with fail
  refine (is_any (A := A) (L := false) 0 true (by simp) HG1.out (by decide) (.known s _ 0 (by decide) rfl) (by decide)).mono ?_
  rintro e w1 ⟨rfl, ho1'⟩
  have ho1 := ho0.trans ho1'
  clear ho1'
  have HG2 : Hid (Gl A w1) := HG.out.only ho1
  have c0x := HG2.out.cell 0 (by decide)
  go_wp2_with fail
  go_ret
  exact ⟨rfl, ho1⟩

set_option maxHeartbeats 4000000 in
theorem class_known1 (A : Nat → Addr) (s : ByteArray) (w : World) (hG : Gl A w) : Calls Tryd.prog 24 #[.iface 60 (.agg #[.string s, .iface 90 (.pointer (some (A 1)))])] w fun e w' => e = .returned (.iface 90 (.pointer (some (A 1)))) ∧ Only [] w w' := by
  have HG : Hid (Gl A w) := hG
  have c2 := hG.cell 2 (by decide)
  clear hG
  go_enter Tryd.func24, Tryd.ntmps24
  go_wp2_with fail
  refine (is_any (A := A) (L := false) 2 false (by simp) HG.out (by decide) (.known s _ 1 (by decide) rfl) (by decide)).mono ?_
  rintro e w0 ⟨rfl, ho0⟩
  have HG1 : Hid (Gl A w0) := HG.out.only ho0
  have c0 := HG1.out.cell 0 (by decide)
  go_wp2_with fail
  refine (is_any (A := A) (L := false) 0 false (by simp) HG1.out (by decide) (.known s _ 1 (by decide) rfl) (by decide)).mono ?_
  rintro e w1 ⟨rfl, ho1'⟩
  have ho1 := ho0.trans ho1'
  clear ho1'
  have HG2 : Hid (Gl A w1) := HG.out.only ho1
  have c1 := HG2.out.cell 1 (by decide)
  go_wp2_with fail
  refine (is_any (A := A) (L := false) 1 true (by simp) HG2.out (by decide) (.known s _ 1 (by decide) rfl) (by decide)).mono ?_
  rintro e w2 ⟨rfl, ho2'⟩
  have ho2 := ho1.trans ho2'
  clear ho2'
  have HG3 : Hid (Gl A w2) := HG.out.only ho2
  have c1x := HG3.out.cell 1 (by decide)
  go_wp2_with fail
  go_ret
  exact ⟨rfl, ho2⟩

set_option maxHeartbeats 4000000 in
theorem class_known3 (A : Nat → Addr) (s : ByteArray) (w : World) (hG : Gl A w) : Calls Tryd.prog 24 #[.iface 60 (.agg #[.string s, .iface 90 (.pointer (some (A 3)))])] w fun e w' => e = .returned (.iface 90 (.pointer (some (A 3)))) ∧ Only [] w w' := by
  have HG : Hid (Gl A w) := hG
  have c2 := hG.cell 2 (by decide)
  clear hG
  go_enter Tryd.func24, Tryd.ntmps24
  go_wp2_with fail
  refine (is_any (A := A) (L := false) 2 false (by simp) HG.out (by decide) (.known s _ 3 (by decide) rfl) (by decide)).mono ?_
  rintro e w0 ⟨rfl, ho0⟩
  have HG1 : Hid (Gl A w0) := HG.out.only ho0
  have c0 := HG1.out.cell 0 (by decide)
  go_wp2_with fail
  refine (is_any (A := A) (L := false) 0 false (by simp) HG1.out (by decide) (.known s _ 3 (by decide) rfl) (by decide)).mono ?_
  rintro e w1 ⟨rfl, ho1'⟩
  have ho1 := ho0.trans ho1'
  clear ho1'
  have HG2 : Hid (Gl A w1) := HG.out.only ho1
  have c1 := HG2.out.cell 1 (by decide)
  go_wp2_with fail
  refine (is_any (A := A) (L := false) 1 false (by simp) HG2.out (by decide) (.known s _ 3 (by decide) rfl) (by decide)).mono ?_
  rintro e w2 ⟨rfl, ho2'⟩
  have ho2 := ho1.trans ho2'
  clear ho2'
  have HG3 : Hid (Gl A w2) := HG.out.only ho2
  have c3 := HG3.out.cell 3 (by decide)
  go_wp2_with fail
  refine (is_any (A := A) (L := false) 3 true (by simp) HG3.out (by decide) (.known s _ 3 (by decide) rfl) (by decide)).mono ?_
  rintro e w3 ⟨rfl, ho3'⟩
  have ho3 := ho2.trans ho3'
  clear ho3'
  have HG4 : Hid (Gl A w3) := HG.out.only ho3
  have c3x := HG4.out.cell 3 (by decide)
  go_wp2_with fail
  go_ret
  exact ⟨rfl, ho3⟩

set_option maxHeartbeats 4000000 in
theorem class_known4 (A : Nat → Addr) (s : ByteArray) (w : World) (hG : Gl A w) : Calls Tryd.prog 24 #[.iface 60 (.agg #[.string s, .iface 90 (.pointer (some (A 4)))])] w fun e w' => e = .returned (.iface 90 (.pointer (some (A 4)))) ∧ Only [] w w' := by
  have HG : Hid (Gl A w) := hG
  have c2 := hG.cell 2 (by decide)
  clear hG
  go_enter Tryd.func24, Tryd.ntmps24
  go_wp2_with fail
  refine (is_any (A := A) (L := false) 2 false (by simp) HG.out (by decide) (.known s _ 4 (by decide) rfl) (by decide)).mono ?_
  rintro e w0 ⟨rfl, ho0⟩
  have HG1 : Hid (Gl A w0) := HG.out.only ho0
  have c0 := HG1.out.cell 0 (by decide)
  go_wp2_with fail
  refine (is_any (A := A) (L := false) 0 false (by simp) HG1.out (by decide) (.known s _ 4 (by decide) rfl) (by decide)).mono ?_
  rintro e w1 ⟨rfl, ho1'⟩
  have ho1 := ho0.trans ho1'
  clear ho1'
  have HG2 : Hid (Gl A w1) := HG.out.only ho1
  have c1 := HG2.out.cell 1 (by decide)
  go_wp2_with fail
  refine (is_any (A := A) (L := false) 1 false (by simp) HG2.out (by decide) (.known s _ 4 (by decide) rfl) (by decide)).mono ?_
  rintro e w2 ⟨rfl, ho2'⟩
  have ho2 := ho1.trans ho2'
  clear ho2'
  have HG3 : Hid (Gl A w2) := HG.out.only ho2
  have c3 := HG3.out.cell 3 (by decide)
  go_wp2_with fail
  refine (is_any (A := A) (L := false) 3 false (by simp) HG3.out (by decide) (.known s _ 4 (by decide) rfl) (by decide)).mono ?_
  rintro e w3 ⟨rfl, ho3'⟩
  have ho3 := ho2.trans ho3'
  clear ho3'
  have HG4 : Hid (Gl A w3) := HG.out.only ho3
  have c4 := HG4.out.cell 4 (by decide)
  go_wp2_with fail
  refine (is_any (A := A) (L := false) 4 true (by simp) HG4.out (by decide) (.known s _ 4 (by decide) rfl) (by decide)).mono ?_
  rintro e w4 ⟨rfl, ho4'⟩
  have ho4 := ho3.trans ho4'
  clear ho4'
  have HG5 : Hid (Gl A w4) := HG.out.only ho4
  have c4x := HG5.out.cell 4 (by decide)
  go_wp2_with fail
  go_ret
  exact ⟨rfl, ho4⟩

set_option maxHeartbeats 4000000 in
theorem class_known5 (A : Nat → Addr) (s : ByteArray) (w : World) (hG : Gl A w) : Calls Tryd.prog 24 #[.iface 60 (.agg #[.string s, .iface 90 (.pointer (some (A 5)))])] w fun e w' => e = .returned (.iface 90 (.pointer (some (A 5)))) ∧ Only [] w w' := by
  have HG : Hid (Gl A w) := hG
  have c2 := hG.cell 2 (by decide)
  clear hG
  go_enter Tryd.func24, Tryd.ntmps24
  go_wp2_with fail
  refine (is_any (A := A) (L := false) 2 false (by simp) HG.out (by decide) (.known s _ 5 (by decide) rfl) (by decide)).mono ?_
  rintro e w0 ⟨rfl, ho0⟩
  have HG1 : Hid (Gl A w0) := HG.out.only ho0
  have c0 := HG1.out.cell 0 (by decide)
  go_wp2_with fail
  refine (is_any (A := A) (L := false) 0 false (by simp) HG1.out (by decide) (.known s _ 5 (by decide) rfl) (by decide)).mono ?_
  rintro e w1 ⟨rfl, ho1'⟩
  have ho1 := ho0.trans ho1'
  clear ho1'
  have HG2 : Hid (Gl A w1) := HG.out.only ho1
  have c1 := HG2.out.cell 1 (by decide)
  go_wp2_with fail
  refine (is_any (A := A) (L := false) 1 false (by simp) HG2.out (by decide) (.known s _ 5 (by decide) rfl) (by decide)).mono ?_
  rintro e w2 ⟨rfl, ho2'⟩
  have ho2 := ho1.trans ho2'
  clear ho2'
  have HG3 : Hid (Gl A w2) := HG.out.only ho2
  have c3 := HG3.out.cell 3 (by decide)
  go_wp2_with fail
  refine (is_any (A := A) (L := false) 3 false (by simp) HG3.out (by decide) (.known s _ 5 (by decide) rfl) (by decide)).mono ?_
  rintro e w3 ⟨rfl, ho3'⟩
  have ho3 := ho2.trans ho3'
  clear ho3'
  have HG4 : Hid (Gl A w3) := HG.out.only ho3
  have c4 := HG4.out.cell 4 (by decide)
  go_wp2_with fail
  refine (is_any (A := A) (L := false) 4 false (by simp) HG4.out (by decide) (.known s _ 5 (by decide) rfl) (by decide)).mono ?_
  rintro e w4 ⟨rfl, ho4'⟩
  have ho4 := ho3.trans ho4'
  clear ho4'
  have HG5 : Hid (Gl A w4) := HG.out.only ho4
  have c5 := HG5.out.cell 5 (by decide)
  go_wp2_with fail
  refine (is_any (A := A) (L := false) 5 true (by simp) HG5.out (by decide) (.known s _ 5 (by decide) rfl) (by decide)).mono ?_
  rintro e w5 ⟨rfl, ho5'⟩
  have ho5 := ho4.trans ho5'
  clear ho5'
  have HG6 : Hid (Gl A w5) := HG.out.only ho5
  have c5x := HG6.out.cell 5 (by decide)
  go_wp2_with fail
  go_ret
  exact ⟨rfl, ho5⟩

theorem class_any (A : Nat → Addr) (k : Int) (w : World) (hG : Gl A w) : Calls Tryd.prog 24 #[kindV A k] w fun e w' => e = .returned (clsV A (clsOf k)) ∧ Only [] w w' := by
  rcases kindV_ways A k with ⟨hv, rfl, hc⟩ | ⟨s, g, hg, hv, hn, hc⟩ | ⟨hv, hn, hc⟩
  · rw [hv, hc]
    refine (class_nil A w hG).mono ?_
    rintro e w' ⟨rfl, rfl⟩
    exact ⟨rfl, Only.refl _ _⟩
  · rw [hv, hc]
    obtain rfl | rfl | rfl | rfl | rfl | rfl : g = 0 ∨ g = 1 ∨ g = 2 ∨ g = 3 ∨ g = 4 ∨ g = 5 := by omega
    · exact class_known0 A s w hG
    · exact class_known1 A s w hG
    · exact class_known2 A s w hG
    · exact class_known3 A s w hG
    · exact class_known4 A s w hG
    · exact class_known5 A s w hG
  · rw [hv, hc]
    exact class_number A k w hG

set_option maxHeartbeats 1000000 in
theorem unwraps (A : Nat → Addr) : UnwrapsAs A := by
  intro p at_ k w hG hb
  have c1 := hb.cell 1
  have HG : Hid (Gl A w) := hG
  clear hG hb
  go_enter Tryd.func19, Tryd.ntmps19
  go_wp2_with fail
  refine (kind_any A k _ HG.out).mono ?_
  rintro e w' ⟨rfl, rfl⟩
  go_wp2_with fail
  refine (class_any A k _ HG.out).mono ?_
  rintro e w1 ⟨rfl, ho⟩
  go_wp2_with fail
  go_ret
  exact ⟨rfl, ho⟩
end Go.Proofs.YtnmaoodghbkmcaaDoor
