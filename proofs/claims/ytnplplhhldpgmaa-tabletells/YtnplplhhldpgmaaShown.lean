/- The document's examples, at the head of all four statements, answer true. -/
import Derived.Test.YtnplplhhldpgmaaFont
import Derived.Test.YtnplplhhldpgmaaAlike
namespace Go.Proofs.Ytnplplhhldpgmaa
open Go.RowKit

theorem v50 : verd 1000 plainG (plainP (-50)) = 0 := by kernel_rfl
theorem v401 : verd 1000 plainG (plainP (-401)) = 52 := by kernel_rfl
theorem v400 : verd 1000 plainG (plainP (-400)) = 0 := by kernel_rfl
theorem v0 : verd 0 [] [] = 1 := by kernel_rfl
theorem g97 : gotG plainG 97 = (97, 500, 700, 200) ∧ hasG plainG 97 = true := by constructor <;> kernel_rfl
theorem g99 : gotG plainG 99 = (0, 0, 0, 0) ∧ hasG plainG 99 = false := by constructor <;> kernel_rfl
theorem p97 : gotP (plainP (-50)) 97 98 = (97, 98, false, 0, -50) ∧ hasP (plainP (-50)) 97 98 = true := by constructor <;> kernel_rfl
theorem p98 : gotP (plainP (-50)) 98 97 = (0, 0, false, 0, 0) ∧ hasP (plainP (-50)) 98 97 = false := by constructor <;> kernel_rfl
theorem func_nil (b : Nat) (w : World) : Sem.run Try.prog (binOp .eql 42 (.func (.func 29) #[] #[.pointer (some ⟨b, 0, none⟩)]) .nilFunc) w = .ok (.bool false) w := by
  kernel_rfl
/-- a font comes in, New is asked -/
theorem plain_new (k : Int) (w : World) : ∀ W, Below w.heap.size w W → ∀ ad bd, Sl W ad plainG.length (plainG.flatMap cg) → Sl W bd (plainP k).length ((plainP k).flatMap cp) →
    Calls Try.prog 10 #[.agg #[.int .i64 1000, .slice ad plainG.length 4, .slice bd (plainP k).length 2]] W fun e w' => Made W w' 1000 plainG (plainP k) e := fun W _ ad bd h1 h2 =>
  new_any 1000 plainG (plainP k) ad bd 4 2 W (by decide) (by simp [plainP]) h1 h2

set_option maxRecDepth 100000 in
set_option maxHeartbeats 8000000 in
theorem shown_any (w : World) : Calls Try.prog 8 #[] w fun e w' => e = .returned (.bool true) ∧ Below w.heap.size w w' := by
  go_enter Try.func8, Try.ntmps8
  go_wp2_with fail
  refine (plain_any (-50) _).mono ?_
  rintro e w1 ⟨ad, bd, rfl, s1, s2, hb⟩
  have HS : Hid (Sl w1 ad plainG.length (plainG.flatMap cg) ∧ Sl w1 bd (plainP (-50)).length ((plainP (-50)).flatMap cp)) := ⟨s1, s2⟩
  have HB1 : Hid (Below w.heap.size w w1) := hb
  clear s1 s2 hb
  go_wp2_with fail
  refine (plain_new (-50) w w1 HB1.out ad bd HS.out.1 HS.out.2).mono ?_
  rintro e w2 ⟨_, hmade, hb⟩
  obtain ⟨a, rfl, hT⟩ := hmade v50
  have HB2 : Hid (Below w.heap.size w w2) := HB1.out.trans (hb.mono HB1.out.size)
  have HT : Hid (Tab w1.heap.size w2.heap.size w2 a 1000 plainG (plainP (-50))) := hT
  clear hb hT hmade HS
  go_wp2_with fail
  refine (plain_any (-401) _).mono ?_
  rintro e w3 ⟨ad, bd, rfl, s1, s2, hb⟩
  have HS : Hid (Sl w3 ad plainG.length (plainG.flatMap cg) ∧ Sl w3 bd (plainP (-401)).length ((plainP (-401)).flatMap cp)) := ⟨s1, s2⟩
  have HB3 : Hid (Below w.heap.size w w3) := HB2.out.trans (hb.mono HB2.out.size)
  have HT3 : Hid (Below w2.heap.size w2 w3) := hb
  clear s1 s2 hb
  go_wp2_with fail
  refine (plain_new (-401) w w3 HB3.out ad bd HS.out.1 HS.out.2).mono ?_
  rintro e w4 ⟨hwr, _, hb⟩
  have he := hwr (by rw [v401]; decide)
  rw [v401] at he
  subst he
  have HB4 : Hid (Below w.heap.size w w4) := HB3.out.trans (hb.mono HB3.out.size)
  have HT4 : Hid (Below w2.heap.size w2 w4) := HT3.out.trans (hb.mono HT3.out.size)
  clear hb HS hwr
  go_wp2_with fail
  refine (plain_any (-400) _).mono ?_
  rintro e w5 ⟨ad, bd, rfl, s1, s2, hb⟩
  have HS : Hid (Sl w5 ad plainG.length (plainG.flatMap cg) ∧ Sl w5 bd (plainP (-400)).length ((plainP (-400)).flatMap cp)) := ⟨s1, s2⟩
  have HB5 : Hid (Below w.heap.size w w5) := HB4.out.trans (hb.mono HB4.out.size)
  have HT5 : Hid (Below w2.heap.size w2 w5) := HT4.out.trans (hb.mono HT4.out.size)
  clear s1 s2 hb
  go_wp2_with fail
  refine (plain_new (-400) w w5 HB5.out ad bd HS.out.1 HS.out.2).mono ?_
  rintro e w6 ⟨_, hmade, hb⟩
  obtain ⟨a2, rfl, _⟩ := hmade v400
  have HB6 : Hid (Below w.heap.size w w6) := HB5.out.trans (hb.mono HB5.out.size)
  have HT6 : Hid (Below w2.heap.size w2 w6) := HT5.out.trans (hb.mono HT5.out.size)
  clear hb hmade HS
  go_wp2_with fail
  refine (new_any 0 [] [] none none 0 0 w6 (by decide) (by decide) Sl.nil Sl.nil).mono ?_
  rintro e w7 ⟨hwr, _, hb⟩
  have he := hwr (by rw [v0]; decide)
  rw [v0] at he
  subst he
  have HB7 : Hid (Below w.heap.size w w7) := HB6.out.trans (hb.mono HB6.out.size)
  have HT7 : Hid (Below w2.heap.size w2 w7) := HT6.out.trans (hb.mono HT6.out.size)
  clear hb hwr HB1 HB2 HB3 HB4 HB5 HB6 HT3 HT4 HT5 HT6
  go_wp2_with fail
  refine (all_any _ _).mono ?_
  rintro e w8 ⟨rfl, hw8⟩
  have hb : Below w7.heap.size w7 w8 := by rw [hw8]; exact (Below.refl _ _).alloc (Nat.le_refl _) _
  have HB8 : Hid (Below w.heap.size w w8) := HB7.out.trans (hb.mono HB7.out.size)
  have HT8 : Hid (Below w2.heap.size w2 w8) := HT7.out.trans (hb.mono HT7.out.size)
  have hnil := func_nil w7.heap.size w8
  clear hw8 hb HB7 HT7
  go_wp2_with fail
  have HTT : Hid (∀ W, Below w2.heap.size w2 W → Tab w1.heap.size w2.heap.size W a 1000 plainG (plainP (-50))) := fun W h => HT.out.below h
  clear hnil HT
  have q1 := (HTT.out w8 HT8.out).tg.glyph 97
  rw [g97.1, g97.2] at q1
  refine q1.mono ?_
  rintro e w9 ⟨rfl, hb⟩
  have HB9 : Hid (Below w.heap.size w w9) := HB8.out.trans (hb.mono HB8.out.size)
  have HT9 : Hid (Below w2.heap.size w2 w9) := HT8.out.trans (hb.mono HT8.out.size)
  have bg := Blk.new w9 (cg (97, 500, 700, 200)).toArray 45 rfl
  have HG : Hid (Blk (w9.alloc (.cells (cg (97, 500, 700, 200)).toArray 45)) w9.heap.size (cg (97, 500, 700, 200)) 45) := bg
  simp only [cg]
  clear hb q1 bg HB8 HT8
  go_wp2_with fail
  have hbA : Below w9.heap.size w9 (w9.alloc (.cells #[.int .i64 97, .int .i64 500, .int .i64 700, .int .i64 200] 45)) := (Below.refl _ _).alloc (Nat.le_refl _) _
  have q1 := (HTT.out _ (HT9.out.trans (hbA.mono HT9.out.size))).tg.glyph 99
  rw [g99.1, g99.2] at q1
  refine q1.mono ?_
  rintro e w10 ⟨rfl, hb⟩
  have hbB := hbA.trans (hb.mono hbA.size)
  have HB10 : Hid (Below w.heap.size w w10) := HB9.out.trans (hbB.mono HB9.out.size)
  have HT10 : Hid (Below w2.heap.size w2 w10) := HT9.out.trans (hbB.mono HT9.out.size)
  have HG10 : Hid (Blk w10 w9.heap.size (cg (97, 500, 700, 200)) 45) := HG.out.below hb
  simp only [cg]
  clear hb q1 hbA hbB HB9 HT9 HG
  go_wp2_with fail
  have hbA : Below w10.heap.size w10 (w10.alloc (.cells #[.int .i64 0, .int .i64 0, .int .i64 0, .int .i64 0] 45)) := (Below.refl _ _).alloc (Nat.le_refl _) _
  have q1 := (HTT.out _ (HT10.out.trans (hbA.mono HT10.out.size))).pair 97 98
  rw [p97.1, p97.2] at q1
  refine q1.mono ?_
  rintro e w11 ⟨rfl, hb⟩
  have hbB := hbA.trans (hb.mono hbA.size)
  have HB11 : Hid (Below w.heap.size w w11) := HB10.out.trans (hbB.mono HB10.out.size)
  have HT11 : Hid (Below w2.heap.size w2 w11) := HT10.out.trans (hbB.mono HT10.out.size)
  have HG11 : Hid (Blk w11 w9.heap.size (cg (97, 500, 700, 200)) 45) := HG10.out.below hbB
  have HP11 : Hid (Blk (w11.alloc (.cells (cp (97, 98, false, 0, -50)).toArray 52)) w11.heap.size (cp (97, 98, false, 0, -50)) 52) := Blk.new w11 (cp (97, 98, false, 0, -50)).toArray 52 rfl
  simp only [cp]
  clear hb q1 hbA hbB HB10 HT10 HG10
  go_wp2_with fail
  have hbA : Below w11.heap.size w11 (w11.alloc (.cells #[.int .i64 97, .int .i64 98, .bool false, .int .i64 0, .int .i64 (-50)] 52)) := (Below.refl _ _).alloc (Nat.le_refl _) _
  have q1 := (HTT.out _ (HT11.out.trans (hbA.mono HT11.out.size))).pair 98 97
  rw [p98.1, p98.2] at q1
  refine q1.mono ?_
  rintro e w12 ⟨rfl, hb⟩
  have hbB := hbA.trans (hb.mono hbA.size)
  have HB12 : Hid (Below w.heap.size w w12) := HB11.out.trans (hbB.mono HB11.out.size)
  have HT12 : Hid (Below w2.heap.size w2 w12) := HT11.out.trans (hbB.mono HT11.out.size)
  have bg := HG11.out.below hbB
  have bp := HP11.out.below hb
  have c1 : w12.cell? ⟨w9.heap.size, 1, none⟩ = some (.int .i64 500) := bg.cell 1
  have c3 : w12.cell? ⟨w9.heap.size, 3, none⟩ = some (.int .i64 200) := bg.cell 3
  have c4 : w12.cell? ⟨w11.heap.size, 4, none⟩ = some (.int .i64 (-50)) := bp.cell 4
  have l1 := bg.lt
  have l2 := bp.lt
  simp only [cp]
  clear hb q1 hbA hbB HB11 HT11 HG11 HP11 bg bp
  go_wp2_with fail
  have hbA : Below w12.heap.size w12 (w12.alloc (.cells #[.int .i64 0, .int .i64 0, .bool false, .int .i64 0, .int .i64 0] 52)) := (Below.refl _ _).alloc (Nat.le_refl _) _
  have HTA : Hid (Below w2.heap.size w2 (w12.alloc (.cells #[.int .i64 0, .int .i64 0, .bool false, .int .i64 0, .int .i64 0] 52))) := HT12.out.trans (hbA.mono HT12.out.size)
  refine (font_any _ _ a 1000 plainG (plainP (-50)) _ HTA.out.size (HTT.out _ HTA.out)).mono ?_
  rintro e w13 ⟨gv, pv, rfl, r1, r2, hb⟩
  obtain ⟨ad1, cap1, rfl, f1, _⟩ := row_reads r1
  obtain ⟨ad2, cap2, rfl, f2, _⟩ := row_reads r2
  have hbB := hbA.trans (hb.mono (by simp))
  have HB13 : Hid (Below w.heap.size w w13) := HB12.out.trans (hbB.mono HB12.out.size)
  have HF : Hid (Sl w13 ad1 plainG.length (plainG.flatMap cg) ∧ Sl w13 ad2 (plainP (-50)).length ((plainP (-50)).flatMap cp)) := ⟨f1, f2⟩
  clear hb r1 r2 f1 f2 hbA hbB c1 c3 c4 l1 l2 HTA HB12 HT12
  go_wp2_with fail
  refine (plain_any (-50) _).mono ?_
  rintro e w14 ⟨ad, bd, rfl, s1, s2, hb⟩
  have HB14 : Hid (Below w.heap.size w w14) := HB13.out.trans (hb.mono HB13.out.size)
  have HSM := hid (same_true 1000 plainG (plainP (-50)) ad1 ad ad2 bd cap1 4 cap2 2 w14 (by decide) (by simp [plainP]) (HF.out.1.below hb) (HF.out.2.below hb) s1 s2)
  clear s1 s2 hb HF
  go_wp2_with fail
  refine HSM.out.mono ?_
  rintro e w15 ⟨rfl, hb⟩
  have HB15 : Hid (Below w.heap.size w w15) := HB14.out.trans (hb.mono HB14.out.size)
  clear HSM hb
  go_wp2_with fail
  go_ret
  exact ⟨rfl, HB15.out⟩
end Go.Proofs.Ytnplplhhldpgmaa
