/- The examples at the head of the statements; the statement on texts. -/
import Derived.Test.YtapnmopcmlcfbaaDoorRefR
namespace Go.Proofs.YtapnmopcmlcfbaaDoor
open Go.RowKit

def t15 : ByteArray := { data := #[49, 46, 53, 101, 109] }
def tmm : ByteArray := { data := #[49, 109, 109] }
def tbig : ByteArray := { data := #[49, 48, 55, 51, 55, 52, 49, 56, 50, 52, 46, 48, 48, 48, 49] }
def t200 : ByteArray := { data := #[50, 48, 48] }
theorem ex1 : rd (bl t15) 7 = (11, 0) := by decide +kernel
theorem ex2 : rd (bl tmm) 0 = (185771, 0) := by decide +kernel
theorem ex3 : rd (bl tbig) 0 = (0, 81) := by decide +kernel
theorem ex4 : nb (bl t200) = (200, 0) := by decide +kernel
theorem ex5 : decS 655361 ++ { data := #[115, 112] } = { data := #[54, 53, 53, 51, 54, 49, 115, 112] } := by
  have : Lib.decDigits 655361 = [54, 53, 53, 51, 54, 49] := by decide +kernel
  unfold decS
  rw [this]
  apply ByteArray.ext
  simp

set_option maxRecDepth 100000 in
set_option maxHeartbeats 4000000 in
theorem shown_any (w : World) (hU : Ut w) : Calls Tryd.prog 7 #[] w fun e w' => e = .returned (.bool true) ∧ Only [] w w' := by
  have r1 := fun W (h : Un W) => read_any t15 7 W (by decide) (by decide) (by decide) h
  have r2 := fun W (h : Un W) => read_any tmm 0 W (by decide) (by decide) (by decide) h
  have r3 := fun W (h : Un W) => read_any tbig 0 W (by decide) (by decide) (by decide) h
  have r4 := fun W => number_any t200 W (by decide)
  have r5 := fun W (h : Ut W) => print_any 655361 W h
  rw [ex1] at r1
  rw [ex2] at r2
  rw [ex3] at r3
  rw [ex4] at r4
  have hp : prV 655361 = .tuple #[.string { data := #[54, 53, 53, 51, 54, 49, 115, 112] }, .int .i64 0] := by
    rw [← ex5]; exact prV_part (m := 655361) (by decide) (by decide)
  rw [hp] at r5
  have R1 := hid r1
  have R2 := hid r2
  have R3 := hid r3
  have R4 := hid r4
  have R5 := hid r5
  have HU := hid hU
  clear r1 r2 r3 r4 r5 hp hU
  go_enter Tryd.func7, Tryd.ntmps7
  go_wp2_with fail
  refine (R1.out _ HU.out.un).mono ?_
  rintro e w1 ⟨rfl, ho1⟩
  have HU1 := hid (HU.out.only ho1 (by simp))
  go_wp2_with fail
  refine (R2.out _ HU1.out.un).mono ?_
  rintro e w2 ⟨rfl, ho2⟩
  have HU2 := hid (HU1.out.only ho2 (by simp))
  go_wp2_with fail
  refine (R5.out _ HU2.out).mono ?_
  rintro e w3 ⟨rfl, ho3⟩
  have HU3 := hid (HU2.out.only ho3 (by simp))
  go_wp2_with fail
  refine (R3.out _ HU3.out.un).mono ?_
  rintro e w4 ⟨rfl, ho4⟩
  go_wp2_with fail
  refine (R4.out _).mono ?_
  rintro e w5 ⟨rfl, ho5⟩
  have HO := hid ((((ho1.trans ho2).trans ho3).trans ho4).trans ho5)
  clear ho1 ho2 ho3 ho4 ho5
  go_wp2_with fail
  go_ret
  exact ⟨rfl, HO.out⟩

set_option maxRecDepth 100000 in
set_option maxHeartbeats 4000000 in
theorem reads_walk (s : ByteArray) (size : Int) (hs : s.size ≤ 140737488351232) (hz : -9223372036854775808 ≤ size ∧ size ≤ 9223372036854775807) (w : World) (hU : Ut w) :
    Calls Tryd.prog 3 #[.string s, .int .i64 size] w fun e w' => e = .returned (.bool true) ∧ Below w.heap.size w w' := by
  have hs' : s.size ≤ 140737488355328 := by omega
  have R1 := hid (fun W (h : Un W) => read_any s size W hs' hz.1 hz.2 h)
  have R2 := hid (fun W => refRead_any s size W hs' hz.1 hz.2)
  have R3 := hid (fun W => number_any s W hs')
  have R4 := hid (fun W => refNumber_any s W hs')
  obtain ⟨a, ha⟩ : ∃ a, (rd (bl s) size).1 = a := ⟨_, rfl⟩
  obtain ⟨b, hb⟩ : ∃ b, (rd (bl s) size).2 = b := ⟨_, rfl⟩
  obtain ⟨c, hc⟩ : ∃ c, (nb (bl s)).1 = c := ⟨_, rfl⟩
  obtain ⟨d, hd⟩ : ∃ d, (nb (bl s)).2 = d := ⟨_, rfl⟩
  rw [ha, hb] at R1 R2
  rw [hc, hd] at R3 R4
  have HU := hid hU
  clear ha hb hc hd hU
  go_enter Tryd.func3, Tryd.ntmps3
  go_wp2_with fail
  refine (shown_any _ HU.out).mono ?_
  rintro e w1 ⟨rfl, ho1⟩
  have HU1 := hid (HU.out.only ho1 (by simp))
  go_wp2_with fail
  refine (R1.out _ HU1.out.un).mono ?_
  rintro e w2 ⟨rfl, ho2⟩
  go_wp2_with fail
  refine (R2.out _).mono ?_
  rintro e w3 ⟨rfl, rfl⟩
  go_wp2_with fail
  refine (R3.out _).mono ?_
  rintro e w4 ⟨rfl, ho4⟩
  go_wp2_with fail
  refine (R4.out _).mono ?_
  rintro e w5 ⟨rfl, rfl⟩
  have HO := hid ((ho1.trans ho2).trans ho4)
  clear ho1 ho2 ho4
  go_wp2_with fail
  go_ret
  exact ⟨rfl, HO.out.below⟩
end Go.Proofs.YtapnmopcmlcfbaaDoor
