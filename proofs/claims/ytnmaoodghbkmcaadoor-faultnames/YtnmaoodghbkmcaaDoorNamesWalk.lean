/- FaultNames walked. -/
import Derived.Test.YtnmaoodghbkmcaaDoorShown
import Derived.Test.YtnmaoodghbkmcaaDoorRefs
import Derived.Test.YtnmaoodghbkmcaaDoorLaid
import Derived.BigQuiet
import Derived.Deep.RegionHeld3
namespace Go.Proofs.YtnmaoodghbkmcaaDoor.faultNames
open Go.RowKit

set_option maxRecDepth 100000 in
set_option maxHeartbeats 4000000 in
theorem walk (A : Nat → Addr) (k : Int) (w : World) (hG : Gl A w) (hT : Tx A w) :
    Calls Tryd.prog 3 #[.int .i64 k] w fun e w' => e = .returned (.bool true) ∧ Only [] w w' := by
  have mE := mError90
  have HG : Hid (Gl A w) := hG
  have HT : Hid (Tx A w) := hT
  clear hG hT
  go_enter Tryd.func3, Tryd.ntmps3
  go_wp2_with fail
  refine (shown_any A _ HG.out).mono ?_
  rintro e w1 ⟨rfl, ho1⟩
  go_wp2_with fail
  refine (classes_any A _ (HG.out.only ho1)).mono ?_
  rintro e w2 ⟨rfl, hb2, ho2⟩
  obtain ⟨b, hb⟩ : ∃ b, w1.heap.size = b := ⟨_, rfl⟩
  rw [hb] at hb2 ⊢
  clear hb
  have HB2 : Hid (Blk w2 b (six A) 27) := hb2
  have HO2 : Hid (Only [] w w2) := ho1.trans ho2
  clear hb2 ho1 ho2
  go_wp2_with fail
  obtain ⟨W3, hW3⟩ : ∃ W3, w2.alloc (.cells #[.string { data := #[98, 117, 100, 103, 101, 116] }, .string { data := #[116, 101, 120, 116] }, .string { data := #[115, 121, 110, 116, 97, 120] }, .string { data := #[102, 111, 110, 116] }, .string { data := #[108, 105, 109, 105, 116] }, .string { data := #[114, 97, 110, 103, 101] }] 9) = W3 := ⟨_, rfl⟩
  have HS3 : Hid (Blk W3 w2.heap.size [.string { data := #[98, 117, 100, 103, 101, 116] }, .string { data := #[116, 101, 120, 116] }, .string { data := #[115, 121, 110, 116, 97, 120] }, .string { data := #[102, 111, 110, 116] }, .string { data := #[108, 105, 109, 105, 116] }, .string { data := #[114, 97, 110, 103, 101] }] 9) := hW3 ▸ Blk.new _ _ _ rfl
  have HO3 : Hid (Only [] w W3) := hW3 ▸ (HO2.out.alloc _)
  have HB3 : Hid (Blk W3 b (six A) 27) := hW3 ▸ (HB2.out.alloc _)
  rw [hW3]
  clear hW3
  obtain ⟨b2, hb2⟩ : ∃ b2, w2.heap.size = b2 := ⟨_, rfl⟩
  rw [hb2] at HS3 ⊢
  clear hb2 HB2 HO2
  go_loopw [5] (fun v wl => ∃ j : Nat, v = .int .i64 j ∧ j ≤ 6 ∧ Only [] W3 wl) (fun v _ => (6 - intOf v).toNat)
  case atStart => exact ⟨0, rfl, by omega, Only.refl _ _⟩
  case round =>
    obtain ⟨j, rfl, hj, ho⟩ := hrel
    have hG := HG.out.only (HO3.out.trans ho)
    have hT := HT.out.only HG.out (HO3.out.trans ho)
    have hs := ho.blk HS3.out (by simp)
    have hb := ho.blk HB3.out (by simp)
    have HO : Hid (Only [] w wr) := HO3.out.trans ho
    have HO4 : Hid (Only [] W3 wr) := ho
    clear ho
    rcases (show j = 0 ∨ j = 1 ∨ j = 2 ∨ j = 3 ∨ j = 4 ∨ j = 5 ∨ j = 6 by omega) with rfl | rfl | rfl | rfl | rfl | rfl | rfl
    · have c1 : wr.cell? ⟨b, 0, none⟩ = some (.iface 90 (.pointer (some (A 2)))) := hb.cell 0
      have c2 : wr.cell? ⟨b2, 0, none⟩ = some (.string (textOf 2)) := hs.cell 0
      have ct := hT 2 (by decide)
      have HX : Hid (wr.cell? (A 2) = some (.string (textOf 2))) := ct
      obtain ⟨s, hs'⟩ : ∃ s, textOf 2 = s := ⟨_, rfl⟩
      rw [hs'] at c2 HX
      clear ct hG hT hs hb hs'
      go_wp2_with fail
      go_region_held3 (fun w' => w'.cell? ⟨b, 0, none⟩ = some (.iface 90 (.pointer (some (A 2)))) ∧ w'.cell? ⟨b2, 0, none⟩ = some (.string s))
        (exact ⟨c1, c2⟩) (first | (go_at_call 85; refine (errText _ s _ (by exact HX.out)).mono ?_; rintro e w5 ⟨rfl, rfl⟩))
      go_wp2_with fail
      go_roundw
      case rel => exact ⟨1, rfl, by omega, HO4.out.drewN _⟩
      case measure => simp [intOf]
    · have c1 : wr.cell? ⟨b, 1, none⟩ = some (.iface 90 (.pointer (some (A 0)))) := hb.cell 1
      have c2 : wr.cell? ⟨b2, 1, none⟩ = some (.string (textOf 0)) := hs.cell 1
      have ct := hT 0 (by decide)
      have HX : Hid (wr.cell? (A 0) = some (.string (textOf 0))) := ct
      obtain ⟨s, hs'⟩ : ∃ s, textOf 0 = s := ⟨_, rfl⟩
      rw [hs'] at c2 HX
      clear ct hG hT hs hb hs'
      go_wp2_with fail
      go_region_held3 (fun w' => w'.cell? ⟨b, 1, none⟩ = some (.iface 90 (.pointer (some (A 0)))) ∧ w'.cell? ⟨b2, 1, none⟩ = some (.string s))
        (exact ⟨c1, c2⟩) (first | (go_at_call 85; refine (errText _ s _ (by exact HX.out)).mono ?_; rintro e w5 ⟨rfl, rfl⟩))
      go_wp2_with fail
      go_roundw
      case rel => exact ⟨2, rfl, by omega, HO4.out.drewN _⟩
      case measure => simp [intOf]
    · have c1 : wr.cell? ⟨b, 2, none⟩ = some (.iface 90 (.pointer (some (A 1)))) := hb.cell 2
      have c2 : wr.cell? ⟨b2, 2, none⟩ = some (.string (textOf 1)) := hs.cell 2
      have ct := hT 1 (by decide)
      have HX : Hid (wr.cell? (A 1) = some (.string (textOf 1))) := ct
      obtain ⟨s, hs'⟩ : ∃ s, textOf 1 = s := ⟨_, rfl⟩
      rw [hs'] at c2 HX
      clear ct hG hT hs hb hs'
      go_wp2_with fail
      go_region_held3 (fun w' => w'.cell? ⟨b, 2, none⟩ = some (.iface 90 (.pointer (some (A 1)))) ∧ w'.cell? ⟨b2, 2, none⟩ = some (.string s))
        (exact ⟨c1, c2⟩) (first | (go_at_call 85; refine (errText _ s _ (by exact HX.out)).mono ?_; rintro e w5 ⟨rfl, rfl⟩))
      go_wp2_with fail
      go_roundw
      case rel => exact ⟨3, rfl, by omega, HO4.out.drewN _⟩
      case measure => simp [intOf]
    · have c1 : wr.cell? ⟨b, 3, none⟩ = some (.iface 90 (.pointer (some (A 3)))) := hb.cell 3
      have c2 : wr.cell? ⟨b2, 3, none⟩ = some (.string (textOf 3)) := hs.cell 3
      have ct := hT 3 (by decide)
      have HX : Hid (wr.cell? (A 3) = some (.string (textOf 3))) := ct
      obtain ⟨s, hs'⟩ : ∃ s, textOf 3 = s := ⟨_, rfl⟩
      rw [hs'] at c2 HX
      clear ct hG hT hs hb hs'
      go_wp2_with fail
      go_region_held3 (fun w' => w'.cell? ⟨b, 3, none⟩ = some (.iface 90 (.pointer (some (A 3)))) ∧ w'.cell? ⟨b2, 3, none⟩ = some (.string s))
        (exact ⟨c1, c2⟩) (first | (go_at_call 85; refine (errText _ s _ (by exact HX.out)).mono ?_; rintro e w5 ⟨rfl, rfl⟩))
      go_wp2_with fail
      go_roundw
      case rel => exact ⟨4, rfl, by omega, HO4.out.drewN _⟩
      case measure => simp [intOf]
    · have c1 : wr.cell? ⟨b, 4, none⟩ = some (.iface 90 (.pointer (some (A 4)))) := hb.cell 4
      have c2 : wr.cell? ⟨b2, 4, none⟩ = some (.string (textOf 4)) := hs.cell 4
      have ct := hT 4 (by decide)
      have HX : Hid (wr.cell? (A 4) = some (.string (textOf 4))) := ct
      obtain ⟨s, hs'⟩ : ∃ s, textOf 4 = s := ⟨_, rfl⟩
      rw [hs'] at c2 HX
      clear ct hG hT hs hb hs'
      go_wp2_with fail
      go_region_held3 (fun w' => w'.cell? ⟨b, 4, none⟩ = some (.iface 90 (.pointer (some (A 4)))) ∧ w'.cell? ⟨b2, 4, none⟩ = some (.string s))
        (exact ⟨c1, c2⟩) (first | (go_at_call 85; refine (errText _ s _ (by exact HX.out)).mono ?_; rintro e w5 ⟨rfl, rfl⟩))
      go_wp2_with fail
      go_roundw
      case rel => exact ⟨5, rfl, by omega, HO4.out.drewN _⟩
      case measure => simp [intOf]
    · have c1 : wr.cell? ⟨b, 5, none⟩ = some (.iface 90 (.pointer (some (A 5)))) := hb.cell 5
      have c2 : wr.cell? ⟨b2, 5, none⟩ = some (.string (textOf 5)) := hs.cell 5
      have ct := hT 5 (by decide)
      have HX : Hid (wr.cell? (A 5) = some (.string (textOf 5))) := ct
      obtain ⟨s, hs'⟩ : ∃ s, textOf 5 = s := ⟨_, rfl⟩
      rw [hs'] at c2 HX
      clear ct hG hT hs hb hs'
      go_wp2_with fail
      go_region_held3 (fun w' => w'.cell? ⟨b, 5, none⟩ = some (.iface 90 (.pointer (some (A 5)))) ∧ w'.cell? ⟨b2, 5, none⟩ = some (.string s))
        (exact ⟨c1, c2⟩) (first | (go_at_call 85; refine (errText _ s _ (by exact HX.out)).mono ?_; rintro e w5 ⟨rfl, rfl⟩))
      go_wp2_with fail
      go_roundw
      case rel => exact ⟨6, rfl, by omega, HO4.out.drewN _⟩
      case measure => simp [intOf]
    · clear hG hT hs hb
      go_wp2_with fail
      refine (Name_any A k _ (HG.out.only HO.out)).mono ?_
      rintro e w4 ⟨rfl, ho4⟩
      go_wp2_with fail
      refine (refName k _).mono ?_
      rintro e w5 ⟨rfl, rfl⟩
      go_wp2_with fail
      go_ret
      exact ⟨rfl, HO.out.trans ho4⟩
end Go.Proofs.YtnmaoodghbkmcaaDoor.faultNames
