/- The document's examples, at the head of all four statements, answer true. -/
import Derived.Test.YtnmaoodghbkmcaaDoorTells
namespace Go.Proofs.YtnmaoodghbkmcaaDoor
open Go.RowKit Go.Extern.Stop Go.Stop Go.Extern

theorem neg5 : nameOf (-5) = { data := #[] } := rfl
theorem n130 : nameOf 130 = { data := #[105, 116, 101, 109, 115] } := rfl

set_option maxRecDepth 100000 in
set_option maxHeartbeats 4000000 in
theorem shown_any (A : Nat → Addr) (w : World) (hG : Gl A w) : Calls Tryd.prog 7 #[] w fun e w' => e = .returned (.bool true) ∧ Only [] w w' := by
  have mE := mError36
  have HG : Hid (Gl A w) := hG
  clear hG
  go_enter Tryd.func7, Tryd.ntmps7
  go_wp2_with fail
  refine (Error_any 40 12 (by decide) _).mono ?_
  rintro e w1 ⟨rfl, hb1, ho1⟩
  obtain ⟨p, hp⟩ : ∃ p, w.heap.size + 1 = p := ⟨_, rfl⟩
  rw [hp] at hb1 ⊢
  clear hp
  go_wp2_with fail
  refine (Error_zero 7 _).mono ?_
  rintro e w2 ⟨rfl, ho2⟩
  have HB2 : Hid (Blk w2 p [.int .i64 12, .int .i64 40] 39) := ho2.blk hb1 (by simp)
  have HO2 : Hid (Only [] w w2) := ho1.trans ho2
  clear hb1 ho1 ho2
  go_wp2_with fail
  refine (Of_some (A := A) (HG.out.only HO2.out) (.wrap _ _ _ (.loc p)) HB2.out).mono ?_
  rintro e w3 ⟨rfl, ho3⟩
  have HB3 : Hid (Blk w3 p [.int .i64 12, .int .i64 40] 39) := ho3.blk HB2.out (by simp)
  have HO3 : Hid (Only [] w w3) := HO2.out.trans ho3
  clear HB2 HO2 ho3
  go_wp2_with fail
  have HF3 : Hid (Blk (w3.alloc (.cells #[.int .i64 40, .int .i64 12] 33)) w3.heap.size [.int .i64 40, .int .i64 12] 33) := Blk.new _ _ _ rfl
  refine (Of_none (A := A) ((HG.out.only HO3.out).only ((Only.refl _ _).alloc _)) .other).mono ?_
  rintro e w4 ⟨rfl, ho4⟩
  have HF4 : Hid (Blk w4 w3.heap.size [.int .i64 40, .int .i64 12] 33) := ho4.blk HF3.out (by simp)
  have HB4 : Hid (Blk w4 p [.int .i64 12, .int .i64 40] 39) := ho4.blk (HB3.out.alloc _) (by simp)
  have HO4 : Hid (Only [] w w4) := (HO3.out.alloc _).trans ho4
  clear HF3 HB3 HO3 ho4
  obtain ⟨q, hq⟩ : ∃ q, w3.heap.size = q := ⟨_, rfl⟩
  rw [hq] at HF4 ⊢
  clear hq
  go_wp2_with fail
  refine (Of_nil _).mono ?_
  rintro e w5 ⟨rfl, ho5⟩
  have HF5 : Hid (Blk w5 q [.int .i64 40, .int .i64 12] 33) := ho5.blk (HF4.out.alloc _) (by simp)
  have HB5 : Hid (Blk w5 p [.int .i64 12, .int .i64 40] 39) := ho5.blk (HB4.out.alloc _) (by simp)
  have HO5 : Hid (Only [] w w5) := (HO4.out.alloc _).trans ho5
  clear HF4 HB4 HO4 ho5
  go_wp2_with fail
  refine (text_shown (A := A) ((HG.out.only HO5.out).only ((Only.refl _ _).alloc _)) (HB5.out.alloc _)).mono ?_
  rintro e w6 ⟨rfl, ho6⟩
  have HF6 : Hid (Blk w6 q [.int .i64 40, .int .i64 12] 33) := ho6.blk (HF5.out.alloc _) (by simp)
  have HB6 : Hid (Blk w6 p [.int .i64 12, .int .i64 40] 39) := ho6.blk (HB5.out.alloc _) (by simp)
  have HO6 : Hid (Only [] w w6) := (HO5.out.alloc _).trans ho6
  have HG6 : Hid (Gl A w6) := HG.out.only HO6.out
  have c0 := HG6.out.cell 0 (by decide)
  clear HF5 HB5 HO5 ho6
  go_wp2_with fail
  refine (is_any (A := A) (L := true) 0 true (fun _ => unwraps A) HG6.out (by decide) (.loc p 12 40 rfl HB6.out) (by decide)).mono ?_
  rintro e w7 ⟨rfl, ho7⟩
  have HF7 : Hid (Blk w7 q [.int .i64 40, .int .i64 12] 33) := ho7.blk HF6.out (by simp)
  have HB7 : Hid (Blk w7 p [.int .i64 12, .int .i64 40] 39) := ho7.blk HB6.out (by simp)
  have HO7 : Hid (Only [] w w7) := HO6.out.trans ho7
  have HG7 : Hid (Gl A w7) := HG.out.only HO7.out
  have c1 := HG7.out.cell 1 (by decide)
  clear HF6 HB6 HO6 ho7 c0 HG6
  go_wp2_with fail
  refine (is_any (A := A) (L := true) 1 false (fun _ => unwraps A) HG7.out (by decide) (.loc p 12 40 rfl HB7.out) (by decide)).mono ?_
  rintro e w8 ⟨rfl, ho8⟩
  have hf8 := ho8.blk HF7.out (by simp)
  have HO8 : Hid (Only [] w w8) := HO7.out.trans ho8
  have HG8 : Hid (Gl A w8) := HG.out.only HO8.out
  have f0 := hf8.cell 0
  have f1 := hf8.cell 1
  clear HF7 HB7 HO7 ho8 c1 HG7 hf8
  go_wp2_with fail
  refine (Name_any A 130 _ HG8.out).mono ?_
  rw [n130]
  rintro e w9 ⟨rfl, ho9⟩
  have HO9 : Hid (Only [] w w9) := HO8.out.trans ho9
  clear f0 f1 ho9
  go_wp2_with fail
  refine (Name_any A (-5) _ (HG.out.only HO9.out)).mono ?_
  rw [neg5]
  rintro e w10 ⟨rfl, ho10⟩
  go_wp2_with fail
  go_ret
  exact ⟨rfl, HO9.out.trans ho10⟩
end Go.Proofs.YtnmaoodghbkmcaaDoor
