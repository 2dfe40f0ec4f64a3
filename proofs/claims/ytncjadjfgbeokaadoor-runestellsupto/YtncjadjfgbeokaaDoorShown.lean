/- The document's examples, at the head of all six statements, answer true. -/
import Derived.Test.YtncjadjfgbeokaaDoorCheck
namespace Go.Proofs.YtncjadjfgbeokaaDoor
open Go.RowKit

theorem k1 : told (chk (bl ⟨#[97, 195, 169]⟩)) = .agg #[.int .i64 0, .int .i64 0] := by kernel_rfl
theorem k2 : told (chk (bl ⟨#[226, 130, 60]⟩)) = .agg #[.int .i64 40, .int .i64 2] := by kernel_rfl
theorem k3 : told (chk (bl ⟨#[237, 160, 128]⟩)) = .agg #[.int .i64 40, .int .i64 1] := by kernel_rfl
theorem k4 : (Value.tuple #[.string (ByteArray.extract ⟨#[97, 226, 130, 172, 98, 226, 130, 60]⟩ 0 (pos (2 : Int).toNat (bl ⟨#[97, 226, 130, 172, 98, 226, 130, 60]⟩))), .string (ByteArray.extract ⟨#[97, 226, 130, 172, 98, 226, 130, 60]⟩ (pos (2 : Int).toNat (bl ⟨#[97, 226, 130, 172, 98, 226, 130, 60]⟩)) (ByteArray.size ⟨#[97, 226, 130, 172, 98, 226, 130, 60]⟩))]) =
    .tuple #[.string ⟨#[97, 226, 130, 172]⟩, .string ⟨#[98, 226, 130, 60]⟩] := by kernel_rfl
theorem k5 : (rs (bl ⟨#[239, 191, 189, 255]⟩)).length = 1 := by kernel_rfl
theorem k6 : widthI 55296 = 0 := by kernel_rfl
theorem k7 : widthI 65536 = 4 := by kernel_rfl
theorem k8 : blankI 13 = true := by kernel_rfl
theorem k9 : blankI 160 = false := by kernel_rfl
theorem c1 (w : World) (hT : Tb w) : Calls Tryd.prog 16 #[.string ⟨#[97, 195, 169]⟩] w fun e w' => e = .returned (.agg #[.int .i64 0, .int .i64 0]) ∧ Below w.heap.size w w' := by
  have := check_any ⟨#[97, 195, 169]⟩ w (by decide) hT
  rwa [k1] at this
theorem c2 (w : World) (hT : Tb w) : Calls Tryd.prog 16 #[.string ⟨#[226, 130, 60]⟩] w fun e w' => e = .returned (.agg #[.int .i64 40, .int .i64 2]) ∧ Below w.heap.size w w' := by
  have := check_any ⟨#[226, 130, 60]⟩ w (by decide) hT
  rwa [k2] at this
theorem c3 (w : World) (hT : Tb w) : Calls Tryd.prog 16 #[.string ⟨#[237, 160, 128]⟩] w fun e w' => e = .returned (.agg #[.int .i64 40, .int .i64 1]) ∧ Below w.heap.size w w' := by
  have := check_any ⟨#[237, 160, 128]⟩ w (by decide) hT
  rwa [k3] at this
theorem c4 (w : World) : Calls Tryd.prog 14 #[.string ⟨#[97, 226, 130, 172, 98, 226, 130, 60]⟩, .int .i64 2] w fun e w' => e = .returned (.tuple #[.string ⟨#[97, 226, 130, 172]⟩, .string ⟨#[98, 226, 130, 60]⟩]) ∧ Below w.heap.size w w' := by
  have := cut_any ⟨#[97, 226, 130, 172, 98, 226, 130, 60]⟩ 2 w (by decide) (by decide) (by decide)
  rwa [k4] at this
theorem c5 (w : World) : Calls Tryd.prog 18 #[.string ⟨#[239, 191, 189, 255]⟩] w fun e w' => e = .returned (.int .i64 1) ∧ Below w.heap.size w w' := by
  have := count_any ⟨#[239, 191, 189, 255]⟩ w (by decide)
  rwa [k5] at this
theorem c6 (w : World) : Calls Tryd.prog 19 #[.int .i64 55296] w fun e w' => e = .returned (.int .i64 0) ∧ w' = w := by
  have := width_any 55296 w
  rwa [k6] at this
theorem c7 (w : World) : Calls Tryd.prog 19 #[.int .i64 65536] w fun e w' => e = .returned (.int .i64 4) ∧ w' = w := by
  have := width_any 65536 w
  rwa [k7] at this
theorem c8 (w : World) : Calls Tryd.prog 21 #[.int .i64 13] w fun e w' => e = .returned (.bool true) ∧ w' = w := by
  have := blank_any 13 w
  rwa [k8] at this
theorem c9 (w : World) : Calls Tryd.prog 21 #[.int .i64 160] w fun e w' => e = .returned (.bool false) ∧ w' = w := by
  have := blank_any 160 w
  rwa [k9] at this

theorem func_nil (b : Nat) (w : World) : Sem.run Tryd.prog (binOp .eql 45 (.func (.func 27) #[] #[.pointer (some ⟨b, 0, none⟩)]) .nilFunc) w = .ok (.bool false) w := by
  kernel_rfl
theorem field0 (a b : Int) (w : World) : Sem.run Tryd.prog (Instr.field 36 (.agg #[.int .i64 a, .int .i64 b]) 0) w = .ok (.int .i64 a) w := by
  kernel_rfl
theorem field1 (a b : Int) (w : World) : Sem.run Tryd.prog (Instr.field 36 (.agg #[.int .i64 a, .int .i64 b]) 1) w = .ok (.int .i64 b) w := by
  kernel_rfl
set_option maxRecDepth 100000 in
set_option maxHeartbeats 4000000 in
theorem shown_any (w : World) (hT : Tb w) : Calls Tryd.prog 9 #[] w fun e w' => e = .returned (.bool true) ∧ Below w.heap.size w w' := by
  have HT : Hid (Tb w) := hT
  clear hT
  go_enter Tryd.func9, Tryd.ntmps9
  go_wp2_with fail
  refine (all_any _ _).mono ?_
  rintro e w1 ⟨rfl, hw1⟩
  have HB1 : Hid (Below w.heap.size w w1) := by rw [hw1]; exact (Below.refl _ w).alloc (Nat.le_refl _) _
  clear hw1
  have hnil := func_nil w.heap.size w1
  go_wp2_with fail
  refine (c4 _).mono ?_
  rintro e w2 ⟨rfl, hb⟩
  have HB2 : Hid (Below w.heap.size w w2) := HB1.out.trans (hb.mono HB1.out.size)
  clear HB1 hb
  go_wp2_with fail
  refine (c1 _ (HT.out.of HB2.out HT.out.size)).mono ?_
  rintro e w3 ⟨rfl, hb⟩
  have HB3 : Hid (Below w.heap.size w w3) := HB2.out.trans (hb.mono HB2.out.size)
  clear HB2 hb
  go_wp2_with fail
  refine (c2 _ (HT.out.of HB3.out HT.out.size)).mono ?_
  rintro e w4 ⟨rfl, hb⟩
  have HB4 : Hid (Below w.heap.size w w4) := HB3.out.trans (hb.mono HB3.out.size)
  clear HB3 hb
  go_wp2_with fail
  refine (c3 _ (HT.out.of HB4.out HT.out.size)).mono ?_
  rintro e w5 ⟨rfl, hb⟩
  have HB5 : Hid (Below w.heap.size w w5) := HB4.out.trans (hb.mono HB4.out.size)
  clear HB4 hb
  have hf1 := field1 40 1 w5
  go_wp2_with fail
  refine (c5 _).mono ?_
  rintro e w6 ⟨rfl, hb⟩
  have HB6 : Hid (Below w.heap.size w w6) := HB5.out.trans (hb.mono HB5.out.size)
  clear HB5 hb
  go_wp2_with fail
  refine (c6 _).mono ?_
  rintro e w' ⟨rfl, rfl⟩
  go_wp2_with fail
  refine (c7 _).mono ?_
  rintro e w' ⟨rfl, rfl⟩
  go_wp2_with fail
  refine (c8 _).mono ?_
  rintro e w' ⟨rfl, rfl⟩
  go_wp2_with fail
  refine (c9 _).mono ?_
  rintro e w' ⟨rfl, rfl⟩
  go_wp2_with fail
  go_ret
  exact ⟨rfl, HB6.out⟩
end Go.Proofs.YtncjadjfgbeokaaDoor
