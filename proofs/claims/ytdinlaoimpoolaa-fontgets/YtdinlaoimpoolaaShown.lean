/- shown: the document's examples; faults compared. -/
import Derived.Test.YtdinlaoimpoolaaPuts
import Derived.Test.YtdinlaoimpoolaaGet
namespace Go.Proofs.Ytdinlaoimpoolaa
open Go.RowKit

theorem under44 : Try.prog.underlying 44 = some (.struct (Try.prog.fieldsOf 44)) := by kernel_rfl
theorem held44 : Try.prog.stoodInHeld 44 = false := by kernel_rfl
theorem fields44 : (Try.prog.fieldsOf 44).toList = [{ name := "Kind", type := 28, offset := 0, embedded := false, tag := "", pkgPath := "", byteOffset := 0 }, { name := "At", type := 3, offset := 1, embedded := false, tag := "", pkgPath := "", byteOffset := 8 }] := by kernel_rfl
def cf (x : Int × Int) : Value := .agg #[.int .i64 x.1, .int .i64 x.2]
theorem part28 (cs : Array Value) (k : Nat) (x : Value) (hx : cs[k]? = some x) (w : World) : Sem.run Try.prog (part 28 cs k) w = .ok x w := by
  simp [part, Try.isAgg28, hx, Result.andThen]
theorem equalF (a b c d : Int) (w : World) : Sem.run Try.prog (Op.equalIn 10000 44 (.agg #[.int .i64 a, .int .i64 b]) (.agg #[.int .i64 c, .int .i64 d])) w = .ok ((a == c) && (b == d)) w := by
  rw [run_equalIn_agg w 9999 44 _ _ under44 held44, fields44]
  have p0 := part28 #[.int .i64 a, .int .i64 b] 0 (.int .i64 a) rfl
  have p1 := part_at 3 (.inl rfl) #[.int .i64 a, .int .i64 b] 1 (.int .i64 b) rfl
  have q0 := part28 #[.int .i64 c, .int .i64 d] 0 (.int .i64 c) rfl
  have q1 := part_at 3 (.inl rfl) #[.int .i64 c, .int .i64 d] 1 (.int .i64 d) rfl
  have e0 : ∀ w, Sem.run Try.prog (Op.equalIn 9999 28 (.int .i64 a) (.int .i64 c)) w = .ok (a == c) w := fun w => run_equalIn_int w 9998 28 .i64 .i64 a c Try.underlying28
  have e1 := eqInt 9998 b d
  simp only [Nat.reduceAdd] at e1
  generalize (a == c) = c0 at *
  generalize (b == d) = c1 at *
  cases c0 <;> cases c1 <;> simp [Op.eqFields, p0, p1, q0, q1, e0, e1, Result.andThen]
theorem eqlF (a b c d : Int) (w : World) : Sem.run Try.prog (binOp .eql 44 (.agg #[.int .i64 a, .int .i64 b]) (.agg #[.int .i64 c, .int .i64 d])) w = .ok (.bool ((a == c) && (b == d))) w := by
  rw [run_eql_struct, equalF]; rfl
theorem neqF (a b c d : Int) (w : World) : Sem.run Try.prog (binOp .neq 44 (.agg #[.int .i64 a, .int .i64 b]) (.agg #[.int .i64 c, .int .i64 d])) w = .ok (.bool (!((a == c) && (b == d)))) w := by
  rw [run_neq_struct, equalF]; rfl

def S13 : ByteArray := ⟨#[80, 70, 49, 3, 232, 0, 0, 0, 0, 241, 68, 228, 125]⟩
theorem str13 : strN (fontB 1000 [] []) = S13 := by kernel_rfl
theorem verd13 : verd 1000 [] [] = 0 := by decide
def E13 : St := ⟨16, 0, 0, 4047823997, 1000, [], [], 0, 0, (0, 0, 0, 0), (0, 0, false, 0, 0)⟩
theorem got13 : getM ⟨100, 100, 0, 0, 0, 0⟩ st0 0 (bl S13) = (⟨100, 100, 13, 0, 0, 0⟩, .inr E13) := by kernel_rfl
theorem got5 : getM ⟨100, 100, 0, 0, 0, 0⟩ st0 0 (bl ⟨#[80, 70, 49, 64, 1]⟩) = (⟨100, 100, 5, 0, 0, 0⟩, .inl (60, 4)) := by kernel_rfl
theorem size13 : S13.size = 13 := by kernel_rfl
theorem head13 : S13.extract 0 9 = ⟨#[80, 70, 49, 3, 232, 0, 0, 0, 0]⟩ := by kernel_rfl
theorem ok100 : M.Ok ⟨100, 100, 0, 0, 0, 0⟩ := by constructor <;> decide

set_option maxRecDepth 100000 in
set_option maxHeartbeats 8000000 in
theorem shown_any (w : World) : Calls Try.prog 8 #[] w fun e w' => e = .returned (.bool true) ∧ Below w.heap.size w w' := by
  have HP := hid (fun X => put_any 1000 [] [] none none 0 0 X (by simp) (by simp) Sl.nil Sl.nil)
  have HNM := hid (fun X => new_yes 100 100 X (by decide) (by decide))
  have HG13 := hid (fun X mb (h : Blk X mb (M.cells ⟨100, 100, 0, 0, 0, 0⟩) 72) => get_any S13 ⟨100, 100, 0, 0, 0, 0⟩ mb X ok100 h (by decide))
  have HG5 := hid (fun X mb (h : Blk X mb (M.cells ⟨100, 100, 0, 0, 0, 0⟩) 72) => get_any ⟨#[80, 70, 49, 64, 1]⟩ ⟨100, 100, 0, 0, 0, 0⟩ mb X ok100 h (by decide))
  rw [got13] at HG13
  rw [got5] at HG5
  go_enter Try.func8, Try.ntmps8
  go_wp2_with fail
  refine (HP.out w).mono ?_
  rintro e w1 ⟨he, hb1⟩
  rw [verd13, if_pos rfl, str13] at he
  subst he
  have HB1 := hid hb1
  clear hb1
  go_wp2_with fail
  refine (HNM.out w1).mono ?_
  rintro e w2 ⟨rfl, rfl⟩
  have HB2 : Hid (Below w.heap.size w (w1.alloc (.cells (M.cells ⟨100, 100, 0, 0, 0, 0⟩).toArray 72))) := hid (HB1.out.alloc HB1.out.size _)
  have HM2 := hid (Blk.new w1 (M.cells ⟨100, 100, 0, 0, 0, 0⟩).toArray 72 rfl)
  obtain ⟨m1, hm1⟩ : ∃ m1, w1.heap.size = m1 := ⟨_, rfl⟩
  obtain ⟨W2, hW2⟩ : ∃ W2, w1.alloc (.cells (M.cells ⟨100, 100, 0, 0, 0, 0⟩).toArray 72) = W2 := ⟨_, rfl⟩
  rw [hW2] at HB2 HM2
  rw [hm1] at HM2
  simp only [hW2, hm1]
  have HML := hid (show w.heap.size ≤ m1 by rw [← hm1]; exact HB1.out.size)
  clear hW2 hm1
  have hs := size13
  have hh := head13
  go_wp2_with fail
  refine (HG13.out W2 m1 HM2.out).mono ?_
  rintro e w3 ⟨ho3, hm3, gv, pv, rfl, hgr, hpr⟩
  obtain ⟨ag, ca, rfl, _, _⟩ := row_reads hgr
  obtain ⟨ap, cb, rfl, _, _⟩ := row_reads hpr
  have HB3 : Hid (Below w.heap.size w w3) := hid (HB2.out.trans (ho3.toBelow HB2.out.size (by intro k hk; have := HML.out; simp at hk; omega)))
  have HM3 := hid hm3
  clear ho3 hm3 hs hh hgr hpr
  have hem : (E13.em : Int) = 1000 := rfl
  have hgl : E13.gs.length = 0 := rfl
  have hpl : E13.ps.length = 0 := rfl
  go_wp2_with fail
  have HX4 := hid ((Blk.new w3 #[.int .i64 1000, .slice ag 0 ca, .slice ap 0 cb] 25 rfl).alloc (.cells #[.int .i64 0, .int .i64 0] 44))
  have HF4 := hid (Blk.new (w3.alloc (.cells #[.int .i64 1000, .slice ag 0 ca, .slice ap 0 cb] 25)) #[.int .i64 0, .int .i64 0] 44 (k := w3.heap.size + 1) (by simp))
  have HM4 := hid ((HM3.out.alloc (.cells #[.int .i64 1000, .slice ag 0 ca, .slice ap 0 cb] 25)).alloc (.cells #[.int .i64 0, .int .i64 0] 44))
  have HB4 : Hid (Below w.heap.size w ((w3.alloc (.cells #[.int .i64 1000, .slice ag 0 ca, .slice ap 0 cb] 25)).alloc (.cells #[.int .i64 0, .int .i64 0] 44))) := hid ((HB3.out.alloc HB3.out.size _).alloc (by have := HB3.out.size; simp; omega) _)
  obtain ⟨b3, hb3⟩ : ∃ b3, w3.heap.size = b3 := ⟨_, rfl⟩
  obtain ⟨W4, hW4⟩ : ∃ W4, (w3.alloc (.cells #[.int .i64 1000, .slice ag 0 ca, .slice ap 0 cb] 25)).alloc (.cells #[.int .i64 0, .int .i64 0] 44) = W4 := ⟨_, rfl⟩
  rw [hW4] at HX4 HF4 HM4 HB4 ⊢
  rw [hb3] at HX4 HF4 ⊢
  have HBL := hid (show w.heap.size ≤ b3 by rw [← hb3]; exact HB3.out.size)
  clear hW4 hb3 HB3 HM3
  refine (HNM.out W4).mono ?_
  rintro e w5 ⟨rfl, rfl⟩
  have HX5 := hid (HX4.out.alloc (.cells (M.cells ⟨100, 100, 0, 0, 0, 0⟩).toArray 72))
  have HF5 := hid (HF4.out.alloc (.cells (M.cells ⟨100, 100, 0, 0, 0, 0⟩).toArray 72))
  have HM5 := hid (HM4.out.alloc (.cells (M.cells ⟨100, 100, 0, 0, 0, 0⟩).toArray 72))
  have HN5 := hid (Blk.new W4 (M.cells ⟨100, 100, 0, 0, 0, 0⟩).toArray 72 rfl)
  have HB5 : Hid (Below w.heap.size w (W4.alloc (.cells (M.cells ⟨100, 100, 0, 0, 0, 0⟩).toArray 72))) := hid (HB4.out.alloc HB4.out.size _)
  obtain ⟨m2, hm2⟩ : ∃ m2, W4.heap.size = m2 := ⟨_, rfl⟩
  obtain ⟨W5, hW5⟩ : ∃ W5, W4.alloc (.cells (M.cells ⟨100, 100, 0, 0, 0, 0⟩).toArray 72) = W5 := ⟨_, rfl⟩
  have HNE : Hid (m2 ≠ m1 ∧ m2 ≠ b3 ∧ m2 ≠ b3 + 1 ∧ w.heap.size ≤ m2) := hid (by
    have h1 := HM4.out.lt
    have h2 := HX4.out.lt
    have h3 := HF4.out.lt
    have h4 := HB4.out.size
    omega)
  rw [hW5] at HX5 HF5 HM5 HN5 HB5
  rw [hm2] at HN5
  simp only [hW5, hm2]
  clear hW5 hm2 HX4 HF4 HM4 HB4 HB2 HM2 HB1
  go_wp2_with fail
  refine (HG5.out W5 m2 HN5.out).mono ?_
  rintro e w6 ⟨ho6, hm6, rfl⟩
  have HB6 : Hid (Below w.heap.size w w6) := hid (HB5.out.trans (ho6.toBelow HB5.out.size (by intro k hk; have := HNE.out; simp at hk; omega)))
  have HX6 := hid (ho6.blk HX5.out (by have := HNE.out; simp; omega))
  have HF6 := hid (ho6.blk HF5.out (by have := HNE.out; simp; omega))
  have HM6 := hid (ho6.blk HM5.out (by have := HNE.out; simp; omega))
  have HN6 := hid hm6
  clear ho6 hm6
  have HB7 : Hid (Below w.heap.size w ((w6.alloc (.cells #[.int .i64 0, .slice none 0 0, .slice none 0 0] 25)).alloc (.cells #[.int .i64 60, .int .i64 4] 44))) := hid ((HB6.out.alloc HB6.out.size _).alloc (by have := HB6.out.size; simp; omega) _)
  have HX7 := hid ((HX6.out.alloc (.cells #[.int .i64 0, .slice none 0 0, .slice none 0 0] 25)).alloc (.cells #[.int .i64 60, .int .i64 4] 44))
  have HF7 := hid ((HF6.out.alloc (.cells #[.int .i64 0, .slice none 0 0, .slice none 0 0] 25)).alloc (.cells #[.int .i64 60, .int .i64 4] 44))
  have HM7 := hid ((HM6.out.alloc (.cells #[.int .i64 0, .slice none 0 0, .slice none 0 0] 25)).alloc (.cells #[.int .i64 60, .int .i64 4] 44))
  have HN7 := hid ((HN6.out.alloc (.cells #[.int .i64 0, .slice none 0 0, .slice none 0 0] 25)).alloc (.cells #[.int .i64 60, .int .i64 4] 44))
  have k0 : ((w6.alloc (.cells #[.int .i64 0, .slice none 0 0, .slice none 0 0] 25)).alloc (.cells #[.int .i64 60, .int .i64 4] 44)).cell? ⟨b3, 0, none⟩ = some (.int .i64 1000) := HX7.out.cell 0
  have k1 : ((w6.alloc (.cells #[.int .i64 0, .slice none 0 0, .slice none 0 0] 25)).alloc (.cells #[.int .i64 60, .int .i64 4] 44)).cell? ⟨b3 + 1, 0, none⟩ = some (.int .i64 0) := HF7.out.cell 0
  have k2 : ((w6.alloc (.cells #[.int .i64 0, .slice none 0 0, .slice none 0 0] 25)).alloc (.cells #[.int .i64 60, .int .i64 4] 44)).cell? ⟨b3 + 1, 1, none⟩ = some (.int .i64 0) := HF7.out.cell 1
  have hq := eqlF
  clear HX6 HF6 HM6 HN6 HB6
  go_wp2_with fail
  refine (steps_any _ m1 _ HM7.out).mono ?_
  rintro e w7 ⟨rfl, rfl⟩
  go_wp2_with fail
  refine (held_any _ m1 _ HM7.out).mono ?_
  rintro e w8 ⟨rfl, rfl⟩
  go_wp2_with fail
  refine (steps_any _ m2 _ HN7.out).mono ?_
  rintro e w9 ⟨rfl, rfl⟩
  go_wp2_with fail
  go_ret
  exact ⟨rfl, HB7.out⟩
end Go.Proofs.Ytdinlaoimpoolaa
