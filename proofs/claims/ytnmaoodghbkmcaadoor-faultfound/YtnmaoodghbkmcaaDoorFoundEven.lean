/- FaultFound walked, where 'second' is even, or below 0. -/
import Derived.Test.YtnmaoodghbkmcaaDoorShown
import Derived.Test.YtnmaoodghbkmcaaDoorRefs
import Derived.Test.YtnmaoodghbkmcaaDoorNumOf
namespace Go.Proofs.YtnmaoodghbkmcaaDoor.faultFound
open Go.RowKit

set_option maxRecDepth 100000 in
set_option maxHeartbeats 4000000 in
theorem walk_even (A : Nat → Addr) (kind at_ deep below second : Int) (w : World) (hG : Gl A w) (h3 : -9223372036854775808 ≤ deep ∧ deep ≤ 9223372036854775807) (h4 : -9223372036854775808 ≤ below ∧ below ≤ 9223372036854775807) (hp : ¬ second.tmod 2 = 1) :
    Calls Tryd.prog 5 #[.int .i64 kind, .int .i64 at_, .int .i64 deep, .int .i64 below, .int .i64 second] w fun e w' => e = .returned (.bool true) ∧ Only [] w w' := by
  have HG : Hid (Gl A w) := hG
  clear hG
  have lt9 : ∀ x : Int, x.tmod 9 ≤ 8 := fun x => by have := Int.tmod_lt_of_pos x (show (0 : Int) < 9 by decide); omega
  by_cases h1 : deep < 0 <;> by_cases h2 : below < 0
  · obtain ⟨n, hn⟩ : ∃ n, (-(deep + 1)).tmod 9 = n := ⟨_, rfl⟩
    obtain ⟨m, hm⟩ : ∃ m, (-(below + 1)).tmod 9 = m := ⟨_, rfl⟩
    have hn8 : n ≤ 8 := hn ▸ lt9 _
    have hm8 : m ≤ 8 := hm ▸ lt9 _
    clear lt9
    go_enter Tryd.func5, Tryd.ntmps5
    go_wp2_with fail
    refine (shown_any A _ HG.out).mono ?_
    rintro e w1 ⟨rfl, ho1⟩
    have HO1 : Hid (Only [] w w1) := ho1
    clear ho1
    go_wp2_with fail
    obtain ⟨W, hW⟩ : ∃ W, w1.alloc (.cells #[.int .i64 kind, .int .i64 at_] 33) = W := ⟨_, rfl⟩
    have HF : Hid (Blk W w1.heap.size [.int .i64 kind, .int .i64 at_] 33) := hW ▸ Blk.new _ _ _ rfl
    have HO : Hid (Only [] w W) := hW ▸ HO1.out.alloc _
    rw [hW]
    clear hW HO1
    obtain ⟨f, hf⟩ : ∃ f, w1.heap.size = f := ⟨_, rfl⟩
    rw [hf] at HF ⊢
    clear hf
    go_loopw [12, 13] (fun E' v wl => ∃ (j : Int) (d : Nat), v = .int .i64 j ∧ 0 ≤ j ∧ j ≤ 9 ∧ Cw E' none d ∧ wl = W) (fun E' v _ => (m - intOf v).toNat)
    case atStart => exact ⟨0, 1, rfl, by omega, by omega, .other, rfl⟩
    case round =>
      obtain ⟨j, d, rfl, hj0, hj9, hch, rfl⟩ := hrel
      obtain ⟨u1, v1, rfl⟩ := hch.iface
      have HC : Hid (Cw (.iface u1 v1) none d) := hch
      clear hch
      go_wp2_with fail
      · go_roundw
        case rel => exact ⟨j + 1, d + 1, rfl, by omega, by omega, .wrap _ _ _ HC.out, trivial⟩
        case measure => simp [intOf]; omega
      · refine (Of_none (A := A) (HG.out.only HO.out) HC.out).mono ?_
        rintro e w2 ⟨rfl, ho2⟩
        have HO2 : Hid (Only [] w w2) := HO.out.trans ho2
        have HF2 : Hid (Blk w2 f [.int .i64 kind, .int .i64 at_] 33) := ho2.blk HF.out (by simp)
        have f0 : ∀ o, (w2.alloc o).cell? ⟨f, 0, none⟩ = some (.int .i64 kind) := fun o => (HF2.out.alloc o).cell 0
        have f1 : ∀ o, (w2.alloc o).cell? ⟨f, 1, none⟩ = some (.int .i64 at_) := fun o => (HF2.out.alloc o).cell 1
        clear ho2 HF HC HO hm hm8 hj0 hj9
        go_wp2_with fail
        clear f0 f1
        obtain ⟨W4, hW4⟩ : ∃ W4, (w2.alloc (.cells #[.int .i64 0, .int .i64 0] 33)).alloc (.cells #[.int .i64 at_, .int .i64 kind] 39) = W4 := ⟨_, rfl⟩
        have HO4 : Hid (Only [] w W4) := hW4 ▸ (HO2.out.alloc _).alloc _
        have HF4 : Hid (Blk W4 f [.int .i64 kind, .int .i64 at_] 33) := hW4 ▸ (HF2.out.alloc _).alloc _
        have HP4 : Hid (Blk W4 (w2.heap.size + 1) [.int .i64 at_, .int .i64 kind] 39) := hW4 ▸ Blk.new _ _ _ (by simp)
        rw [hW4]
        clear hW4 HO2 HF2
        obtain ⟨p2, hp2⟩ : ∃ p2, w2.heap.size + 1 = p2 := ⟨_, rfl⟩
        rw [hp2] at HP4 ⊢
        clear hp2
        go_loopw [12, 18] (fun E' v wl => ∃ (j : Int) (d d' : Nat), v = .int .i64 j ∧ 0 ≤ j ∧ j ≤ 9 ∧ Cw E' (some p2) d ∧ Ch A true W4 E' (clsOf kind) d' ∧ wl = W4) (fun E' v _ => (n - intOf v).toNat)
        case atStart => exact ⟨0, 1, 2, rfl, by omega, by omega, .loc p2, .loc p2 at_ kind rfl HP4.out, rfl⟩
        case round =>
          obtain ⟨j2, d2, d3, rfl, hj0, hj9, hch, hch3, rfl⟩ := hrel
          obtain ⟨u2, v2, rfl⟩ := hch.iface
          have HC : Hid (Cw (.iface u2 v2) (some p2) d2) := hch
          have HC3 : Hid (Ch A true wr (.iface u2 v2) (clsOf kind) d3) := hch3
          clear hch hch3
          go_wp2_with fail
          · go_roundw
            case rel => exact ⟨j2 + 1, d2 + 1, d3 + 1, rfl, by omega, by omega, .wrap _ _ _ HC.out, .wrap _ _ _ HC3.out, trivial⟩
            case measure => simp [intOf]; omega
          · refine (Of_some (A := A) (HG.out.only HO4.out) HC.out HP4.out).mono ?_
            rintro e w5 ⟨rfl, ho5⟩
            have HO5 : Hid (Only [] w w5) := HO4.out.trans ho5
            have HC5 : Hid (Ch A true w5 (.iface u2 v2) (clsOf kind) d3) := HC3.out.only ho5
            have HF5 : Hid (Blk w5 f [.int .i64 kind, .int .i64 at_] 33) := ho5.blk HF4.out (by simp)
            have f0 : ∀ o, (w5.alloc o).cell? ⟨f, 0, none⟩ = some (.int .i64 kind) := fun o => (HF5.out.alloc o).cell 0
            have f1 : ∀ o, (w5.alloc o).cell? ⟨f, 1, none⟩ = some (.int .i64 at_) := fun o => (HF5.out.alloc o).cell 1
            clear ho5 HF4 HP4 HC HC3 HO4 hn hn8 hj0 hj9
            go_wp2_with fail
            refine (refClass kind _).mono ?_
            rintro e w6 ⟨rfl, rfl⟩
            clear f0 f1
            obtain ⟨W7, hW7⟩ : ∃ W7, w5.alloc (.cells #[.int .i64 kind, .int .i64 at_] 33) = W7 := ⟨_, rfl⟩
            have HO7 : Hid (Only [] w W7) := hW7 ▸ HO5.out.alloc _
            have HC7 : Hid (Ch A true W7 (.iface u2 v2) (clsOf kind) d3) := hW7 ▸ HC5.out.only ((Only.refl _ _).alloc _)
            rw [hW7]
            clear hW7 HO5 HC5 HF5
            go_wp2_with fail
            refine (classes_any A _ (HG.out.only HO7.out)).mono ?_
            rintro e w8 ⟨rfl, hb8, ho8⟩
            have HO8 : Hid (Only [] w w8) := HO7.out.trans ho8
            have HC8 : Hid (Ch A true w8 (.iface u2 v2) (clsOf kind) d3) := HC7.out.only ho8
            have HB8 : Hid (Blk w8 W7.heap.size (six A) 27) := hb8
            clear hb8 ho8 HO7 HC7
            obtain ⟨b8, hb8⟩ : ∃ b8, W7.heap.size = b8 := ⟨_, rfl⟩
            rw [hb8] at HB8 ⊢
            clear hb8
            obtain ⟨q1, q2, q3, q4, q5, q6⟩ := num_eq (clsOf kind) (fun g hg => clsOf_lt hg)
            obtain ⟨nn, hnn⟩ : ∃ nn, numOf (clsOf kind) = nn := ⟨_, rfl⟩
            rw [hnn] at q1 q2 q3 q4 q5 q6
            rw [hnn]
            clear hnn
            have HQ1 := hidden q1
            have HQ2 := hidden q2
            have HQ3 := hidden q3
            have HQ4 := hidden q4
            have HQ5 := hidden q5
            have HQ6 := hidden q6
            clear q1 q2 q3 q4 q5 q6
            go_wp2_with fail
            go_loopw [23] (fun v wl => ∃ j : Nat, v = .int .i64 j ∧ j ≤ 6 ∧ Only [] w8 wl) (fun v _ => (6 - intOf v).toNat)
            case atStart => exact ⟨0, rfl, by omega, Only.refl _ _⟩
            case round =>
              obtain ⟨j3, rfl, hj3, ho⟩ := hrel
              have HGr : Hid (Gl A wr) := HG.out.only (HO8.out.trans ho)
              have HCr : Hid (Ch A true wr (.iface u2 v2) (clsOf kind) d3) := HC8.out.only ho
              have hb := ho.blk HB8.out (by simp)
              have HOr : Hid (Only [] w8 wr) := ho
              clear ho
              rcases (show j3 = 0 ∨ j3 = 1 ∨ j3 = 2 ∨ j3 = 3 ∨ j3 = 4 ∨ j3 = 5 ∨ j3 = 6 by omega) with rfl | rfl | rfl | rfl | rfl | rfl | rfl
              · have c1 : wr.cell? ⟨b8, 0, none⟩ = some (.iface 90 (.pointer (some (A 2)))) := hb.cell 0
                obtain ⟨r, hr⟩ : ∃ r, decide (clsOf kind = some 2) = r := ⟨_, rfl⟩
                have hq := HQ1.out
                rw [hr] at hq
                have HR := hidden hr.symm
                clear hb hr
                go_wp2_with fail
                refine (is_any (A := A) (L := true) 2 r (fun _ => unwraps A) HGr.out (by decide) HCr.out HR.out).mono ?_
                rintro e w9 ⟨rfl, ho9⟩
                go_wp2_with fail
                go_roundw
                case rel => exact ⟨1, rfl, by omega, HOr.out.trans ho9⟩
                case measure => simp [intOf]
              · have c1 : wr.cell? ⟨b8, 1, none⟩ = some (.iface 90 (.pointer (some (A 0)))) := hb.cell 1
                obtain ⟨r, hr⟩ : ∃ r, decide (clsOf kind = some 0) = r := ⟨_, rfl⟩
                have hq := HQ2.out
                rw [hr] at hq
                have HR := hidden hr.symm
                clear hb hr
                go_wp2_with fail
                refine (is_any (A := A) (L := true) 0 r (fun _ => unwraps A) HGr.out (by decide) HCr.out HR.out).mono ?_
                rintro e w9 ⟨rfl, ho9⟩
                go_wp2_with fail
                go_roundw
                case rel => exact ⟨2, rfl, by omega, HOr.out.trans ho9⟩
                case measure => simp [intOf]
              · have c1 : wr.cell? ⟨b8, 2, none⟩ = some (.iface 90 (.pointer (some (A 1)))) := hb.cell 2
                obtain ⟨r, hr⟩ : ∃ r, decide (clsOf kind = some 1) = r := ⟨_, rfl⟩
                have hq := HQ3.out
                rw [hr] at hq
                have HR := hidden hr.symm
                clear hb hr
                go_wp2_with fail
                refine (is_any (A := A) (L := true) 1 r (fun _ => unwraps A) HGr.out (by decide) HCr.out HR.out).mono ?_
                rintro e w9 ⟨rfl, ho9⟩
                go_wp2_with fail
                go_roundw
                case rel => exact ⟨3, rfl, by omega, HOr.out.trans ho9⟩
                case measure => simp [intOf]
              · have c1 : wr.cell? ⟨b8, 3, none⟩ = some (.iface 90 (.pointer (some (A 3)))) := hb.cell 3
                obtain ⟨r, hr⟩ : ∃ r, decide (clsOf kind = some 3) = r := ⟨_, rfl⟩
                have hq := HQ4.out
                rw [hr] at hq
                have HR := hidden hr.symm
                clear hb hr
                go_wp2_with fail
                refine (is_any (A := A) (L := true) 3 r (fun _ => unwraps A) HGr.out (by decide) HCr.out HR.out).mono ?_
                rintro e w9 ⟨rfl, ho9⟩
                go_wp2_with fail
                go_roundw
                case rel => exact ⟨4, rfl, by omega, HOr.out.trans ho9⟩
                case measure => simp [intOf]
              · have c1 : wr.cell? ⟨b8, 4, none⟩ = some (.iface 90 (.pointer (some (A 4)))) := hb.cell 4
                obtain ⟨r, hr⟩ : ∃ r, decide (clsOf kind = some 4) = r := ⟨_, rfl⟩
                have hq := HQ5.out
                rw [hr] at hq
                have HR := hidden hr.symm
                clear hb hr
                go_wp2_with fail
                refine (is_any (A := A) (L := true) 4 r (fun _ => unwraps A) HGr.out (by decide) HCr.out HR.out).mono ?_
                rintro e w9 ⟨rfl, ho9⟩
                go_wp2_with fail
                go_roundw
                case rel => exact ⟨5, rfl, by omega, HOr.out.trans ho9⟩
                case measure => simp [intOf]
              · have c1 : wr.cell? ⟨b8, 5, none⟩ = some (.iface 90 (.pointer (some (A 5)))) := hb.cell 5
                obtain ⟨r, hr⟩ : ∃ r, decide (clsOf kind = some 5) = r := ⟨_, rfl⟩
                have hq := HQ6.out
                rw [hr] at hq
                have HR := hidden hr.symm
                clear hb hr
                go_wp2_with fail
                refine (is_any (A := A) (L := true) 5 r (fun _ => unwraps A) HGr.out (by decide) HCr.out HR.out).mono ?_
                rintro e w9 ⟨rfl, ho9⟩
                go_wp2_with fail
                go_roundw
                case rel => exact ⟨6, rfl, by omega, HOr.out.trans ho9⟩
                case measure => simp [intOf]
              · clear hb
                go_wp2_with fail
                go_ret
                exact ⟨rfl, HO8.out.trans HOr.out⟩
  · obtain ⟨n, hn⟩ : ∃ n, (-(deep + 1)).tmod 9 = n := ⟨_, rfl⟩
    obtain ⟨m, hm⟩ : ∃ m, (below).tmod 9 = m := ⟨_, rfl⟩
    have hn8 : n ≤ 8 := hn ▸ lt9 _
    have hm8 : m ≤ 8 := hm ▸ lt9 _
    clear lt9
    go_enter Tryd.func5, Tryd.ntmps5
    go_wp2_with fail
    refine (shown_any A _ HG.out).mono ?_
    rintro e w1 ⟨rfl, ho1⟩
    have HO1 : Hid (Only [] w w1) := ho1
    clear ho1
    go_wp2_with fail
    obtain ⟨W, hW⟩ : ∃ W, w1.alloc (.cells #[.int .i64 kind, .int .i64 at_] 33) = W := ⟨_, rfl⟩
    have HF : Hid (Blk W w1.heap.size [.int .i64 kind, .int .i64 at_] 33) := hW ▸ Blk.new _ _ _ rfl
    have HO : Hid (Only [] w W) := hW ▸ HO1.out.alloc _
    rw [hW]
    clear hW HO1
    obtain ⟨f, hf⟩ : ∃ f, w1.heap.size = f := ⟨_, rfl⟩
    rw [hf] at HF ⊢
    clear hf
    go_loopw [12, 13] (fun E' v wl => ∃ (j : Int) (d : Nat), v = .int .i64 j ∧ 0 ≤ j ∧ j ≤ 9 ∧ Cw E' none d ∧ wl = W) (fun E' v _ => (m - intOf v).toNat)
    case atStart => exact ⟨0, 1, rfl, by omega, by omega, .other, rfl⟩
    case round =>
      obtain ⟨j, d, rfl, hj0, hj9, hch, rfl⟩ := hrel
      obtain ⟨u1, v1, rfl⟩ := hch.iface
      have HC : Hid (Cw (.iface u1 v1) none d) := hch
      clear hch
      go_wp2_with fail
      · go_roundw
        case rel => exact ⟨j + 1, d + 1, rfl, by omega, by omega, .wrap _ _ _ HC.out, trivial⟩
        case measure => simp [intOf]; omega
      · refine (Of_none (A := A) (HG.out.only HO.out) HC.out).mono ?_
        rintro e w2 ⟨rfl, ho2⟩
        have HO2 : Hid (Only [] w w2) := HO.out.trans ho2
        have HF2 : Hid (Blk w2 f [.int .i64 kind, .int .i64 at_] 33) := ho2.blk HF.out (by simp)
        have f0 : ∀ o, (w2.alloc o).cell? ⟨f, 0, none⟩ = some (.int .i64 kind) := fun o => (HF2.out.alloc o).cell 0
        have f1 : ∀ o, (w2.alloc o).cell? ⟨f, 1, none⟩ = some (.int .i64 at_) := fun o => (HF2.out.alloc o).cell 1
        clear ho2 HF HC HO hm hm8 hj0 hj9
        go_wp2_with fail
        clear f0 f1
        obtain ⟨W4, hW4⟩ : ∃ W4, (w2.alloc (.cells #[.int .i64 0, .int .i64 0] 33)).alloc (.cells #[.int .i64 at_, .int .i64 kind] 39) = W4 := ⟨_, rfl⟩
        have HO4 : Hid (Only [] w W4) := hW4 ▸ (HO2.out.alloc _).alloc _
        have HF4 : Hid (Blk W4 f [.int .i64 kind, .int .i64 at_] 33) := hW4 ▸ (HF2.out.alloc _).alloc _
        have HP4 : Hid (Blk W4 (w2.heap.size + 1) [.int .i64 at_, .int .i64 kind] 39) := hW4 ▸ Blk.new _ _ _ (by simp)
        rw [hW4]
        clear hW4 HO2 HF2
        obtain ⟨p2, hp2⟩ : ∃ p2, w2.heap.size + 1 = p2 := ⟨_, rfl⟩
        rw [hp2] at HP4 ⊢
        clear hp2
        go_loopw [12, 18] (fun E' v wl => ∃ (j : Int) (d d' : Nat), v = .int .i64 j ∧ 0 ≤ j ∧ j ≤ 9 ∧ Cw E' (some p2) d ∧ Ch A true W4 E' (clsOf kind) d' ∧ wl = W4) (fun E' v _ => (n - intOf v).toNat)
        case atStart => exact ⟨0, 1, 2, rfl, by omega, by omega, .loc p2, .loc p2 at_ kind rfl HP4.out, rfl⟩
        case round =>
          obtain ⟨j2, d2, d3, rfl, hj0, hj9, hch, hch3, rfl⟩ := hrel
          obtain ⟨u2, v2, rfl⟩ := hch.iface
          have HC : Hid (Cw (.iface u2 v2) (some p2) d2) := hch
          have HC3 : Hid (Ch A true wr (.iface u2 v2) (clsOf kind) d3) := hch3
          clear hch hch3
          go_wp2_with fail
          · go_roundw
            case rel => exact ⟨j2 + 1, d2 + 1, d3 + 1, rfl, by omega, by omega, .wrap _ _ _ HC.out, .wrap _ _ _ HC3.out, trivial⟩
            case measure => simp [intOf]; omega
          · refine (Of_some (A := A) (HG.out.only HO4.out) HC.out HP4.out).mono ?_
            rintro e w5 ⟨rfl, ho5⟩
            have HO5 : Hid (Only [] w w5) := HO4.out.trans ho5
            have HC5 : Hid (Ch A true w5 (.iface u2 v2) (clsOf kind) d3) := HC3.out.only ho5
            have HF5 : Hid (Blk w5 f [.int .i64 kind, .int .i64 at_] 33) := ho5.blk HF4.out (by simp)
            have f0 : ∀ o, (w5.alloc o).cell? ⟨f, 0, none⟩ = some (.int .i64 kind) := fun o => (HF5.out.alloc o).cell 0
            have f1 : ∀ o, (w5.alloc o).cell? ⟨f, 1, none⟩ = some (.int .i64 at_) := fun o => (HF5.out.alloc o).cell 1
            clear ho5 HF4 HP4 HC HC3 HO4 hn hn8 hj0 hj9
            go_wp2_with fail
            refine (refClass kind _).mono ?_
            rintro e w6 ⟨rfl, rfl⟩
            clear f0 f1
            obtain ⟨W7, hW7⟩ : ∃ W7, w5.alloc (.cells #[.int .i64 kind, .int .i64 at_] 33) = W7 := ⟨_, rfl⟩
            have HO7 : Hid (Only [] w W7) := hW7 ▸ HO5.out.alloc _
            have HC7 : Hid (Ch A true W7 (.iface u2 v2) (clsOf kind) d3) := hW7 ▸ HC5.out.only ((Only.refl _ _).alloc _)
            rw [hW7]
            clear hW7 HO5 HC5 HF5
            go_wp2_with fail
            refine (classes_any A _ (HG.out.only HO7.out)).mono ?_
            rintro e w8 ⟨rfl, hb8, ho8⟩
            have HO8 : Hid (Only [] w w8) := HO7.out.trans ho8
            have HC8 : Hid (Ch A true w8 (.iface u2 v2) (clsOf kind) d3) := HC7.out.only ho8
            have HB8 : Hid (Blk w8 W7.heap.size (six A) 27) := hb8
            clear hb8 ho8 HO7 HC7
            obtain ⟨b8, hb8⟩ : ∃ b8, W7.heap.size = b8 := ⟨_, rfl⟩
            rw [hb8] at HB8 ⊢
            clear hb8
            obtain ⟨q1, q2, q3, q4, q5, q6⟩ := num_eq (clsOf kind) (fun g hg => clsOf_lt hg)
            obtain ⟨nn, hnn⟩ : ∃ nn, numOf (clsOf kind) = nn := ⟨_, rfl⟩
            rw [hnn] at q1 q2 q3 q4 q5 q6
            rw [hnn]
            clear hnn
            have HQ1 := hidden q1
            have HQ2 := hidden q2
            have HQ3 := hidden q3
            have HQ4 := hidden q4
            have HQ5 := hidden q5
            have HQ6 := hidden q6
            clear q1 q2 q3 q4 q5 q6
            go_wp2_with fail
            go_loopw [23] (fun v wl => ∃ j : Nat, v = .int .i64 j ∧ j ≤ 6 ∧ Only [] w8 wl) (fun v _ => (6 - intOf v).toNat)
            case atStart => exact ⟨0, rfl, by omega, Only.refl _ _⟩
            case round =>
              obtain ⟨j3, rfl, hj3, ho⟩ := hrel
              have HGr : Hid (Gl A wr) := HG.out.only (HO8.out.trans ho)
              have HCr : Hid (Ch A true wr (.iface u2 v2) (clsOf kind) d3) := HC8.out.only ho
              have hb := ho.blk HB8.out (by simp)
              have HOr : Hid (Only [] w8 wr) := ho
              clear ho
              rcases (show j3 = 0 ∨ j3 = 1 ∨ j3 = 2 ∨ j3 = 3 ∨ j3 = 4 ∨ j3 = 5 ∨ j3 = 6 by omega) with rfl | rfl | rfl | rfl | rfl | rfl | rfl
              · have c1 : wr.cell? ⟨b8, 0, none⟩ = some (.iface 90 (.pointer (some (A 2)))) := hb.cell 0
                obtain ⟨r, hr⟩ : ∃ r, decide (clsOf kind = some 2) = r := ⟨_, rfl⟩
                have hq := HQ1.out
                rw [hr] at hq
                have HR := hidden hr.symm
                clear hb hr
                go_wp2_with fail
                refine (is_any (A := A) (L := true) 2 r (fun _ => unwraps A) HGr.out (by decide) HCr.out HR.out).mono ?_
                rintro e w9 ⟨rfl, ho9⟩
                go_wp2_with fail
                go_roundw
                case rel => exact ⟨1, rfl, by omega, HOr.out.trans ho9⟩
                case measure => simp [intOf]
              · have c1 : wr.cell? ⟨b8, 1, none⟩ = some (.iface 90 (.pointer (some (A 0)))) := hb.cell 1
                obtain ⟨r, hr⟩ : ∃ r, decide (clsOf kind = some 0) = r := ⟨_, rfl⟩
                have hq := HQ2.out
                rw [hr] at hq
                have HR := hidden hr.symm
                clear hb hr
                go_wp2_with fail
                refine (is_any (A := A) (L := true) 0 r (fun _ => unwraps A) HGr.out (by decide) HCr.out HR.out).mono ?_
                rintro e w9 ⟨rfl, ho9⟩
                go_wp2_with fail
                go_roundw
                case rel => exact ⟨2, rfl, by omega, HOr.out.trans ho9⟩
                case measure => simp [intOf]
              · have c1 : wr.cell? ⟨b8, 2, none⟩ = some (.iface 90 (.pointer (some (A 1)))) := hb.cell 2
                obtain ⟨r, hr⟩ : ∃ r, decide (clsOf kind = some 1) = r := ⟨_, rfl⟩
                have hq := HQ3.out
                rw [hr] at hq
                have HR := hidden hr.symm
                clear hb hr
                go_wp2_with fail
                refine (is_any (A := A) (L := true) 1 r (fun _ => unwraps A) HGr.out (by decide) HCr.out HR.out).mono ?_
                rintro e w9 ⟨rfl, ho9⟩
                go_wp2_with fail
                go_roundw
                case rel => exact ⟨3, rfl, by omega, HOr.out.trans ho9⟩
                case measure => simp [intOf]
              · have c1 : wr.cell? ⟨b8, 3, none⟩ = some (.iface 90 (.pointer (some (A 3)))) := hb.cell 3
                obtain ⟨r, hr⟩ : ∃ r, decide (clsOf kind = some 3) = r := ⟨_, rfl⟩
                have hq := HQ4.out
                rw [hr] at hq
                have HR := hidden hr.symm
                clear hb hr
                go_wp2_with fail
                refine (is_any (A := A) (L := true) 3 r (fun _ => unwraps A) HGr.out (by decide) HCr.out HR.out).mono ?_
                rintro e w9 ⟨rfl, ho9⟩
                go_wp2_with fail
                go_roundw
                case rel => exact ⟨4, rfl, by omega, HOr.out.trans ho9⟩
                case measure => simp [intOf]
              · have c1 : wr.cell? ⟨b8, 4, none⟩ = some (.iface 90 (.pointer (some (A 4)))) := hb.cell 4
                obtain ⟨r, hr⟩ : ∃ r, decide (clsOf kind = some 4) = r := ⟨_, rfl⟩
                have hq := HQ5.out
                rw [hr] at hq
                have HR := hidden hr.symm
                clear hb hr
                go_wp2_with fail
                refine (is_any (A := A) (L := true) 4 r (fun _ => unwraps A) HGr.out (by decide) HCr.out HR.out).mono ?_
                rintro e w9 ⟨rfl, ho9⟩
                go_wp2_with fail
                go_roundw
                case rel => exact ⟨5, rfl, by omega, HOr.out.trans ho9⟩
                case measure => simp [intOf]
              · have c1 : wr.cell? ⟨b8, 5, none⟩ = some (.iface 90 (.pointer (some (A 5)))) := hb.cell 5
                obtain ⟨r, hr⟩ : ∃ r, decide (clsOf kind = some 5) = r := ⟨_, rfl⟩
                have hq := HQ6.out
                rw [hr] at hq
                have HR := hidden hr.symm
                clear hb hr
                go_wp2_with fail
                refine (is_any (A := A) (L := true) 5 r (fun _ => unwraps A) HGr.out (by decide) HCr.out HR.out).mono ?_
                rintro e w9 ⟨rfl, ho9⟩
                go_wp2_with fail
                go_roundw
                case rel => exact ⟨6, rfl, by omega, HOr.out.trans ho9⟩
                case measure => simp [intOf]
              · clear hb
                go_wp2_with fail
                go_ret
                exact ⟨rfl, HO8.out.trans HOr.out⟩
  · obtain ⟨n, hn⟩ : ∃ n, (deep).tmod 9 = n := ⟨_, rfl⟩
    obtain ⟨m, hm⟩ : ∃ m, (-(below + 1)).tmod 9 = m := ⟨_, rfl⟩
    have hn8 : n ≤ 8 := hn ▸ lt9 _
    have hm8 : m ≤ 8 := hm ▸ lt9 _
    clear lt9
    go_enter Tryd.func5, Tryd.ntmps5
    go_wp2_with fail
    refine (shown_any A _ HG.out).mono ?_
    rintro e w1 ⟨rfl, ho1⟩
    have HO1 : Hid (Only [] w w1) := ho1
    clear ho1
    go_wp2_with fail
    obtain ⟨W, hW⟩ : ∃ W, w1.alloc (.cells #[.int .i64 kind, .int .i64 at_] 33) = W := ⟨_, rfl⟩
    have HF : Hid (Blk W w1.heap.size [.int .i64 kind, .int .i64 at_] 33) := hW ▸ Blk.new _ _ _ rfl
    have HO : Hid (Only [] w W) := hW ▸ HO1.out.alloc _
    rw [hW]
    clear hW HO1
    obtain ⟨f, hf⟩ : ∃ f, w1.heap.size = f := ⟨_, rfl⟩
    rw [hf] at HF ⊢
    clear hf
    go_loopw [12, 13] (fun E' v wl => ∃ (j : Int) (d : Nat), v = .int .i64 j ∧ 0 ≤ j ∧ j ≤ 9 ∧ Cw E' none d ∧ wl = W) (fun E' v _ => (m - intOf v).toNat)
    case atStart => exact ⟨0, 1, rfl, by omega, by omega, .other, rfl⟩
    case round =>
      obtain ⟨j, d, rfl, hj0, hj9, hch, rfl⟩ := hrel
      obtain ⟨u1, v1, rfl⟩ := hch.iface
      have HC : Hid (Cw (.iface u1 v1) none d) := hch
      clear hch
      go_wp2_with fail
      · go_roundw
        case rel => exact ⟨j + 1, d + 1, rfl, by omega, by omega, .wrap _ _ _ HC.out, trivial⟩
        case measure => simp [intOf]; omega
      · refine (Of_none (A := A) (HG.out.only HO.out) HC.out).mono ?_
        rintro e w2 ⟨rfl, ho2⟩
        have HO2 : Hid (Only [] w w2) := HO.out.trans ho2
        have HF2 : Hid (Blk w2 f [.int .i64 kind, .int .i64 at_] 33) := ho2.blk HF.out (by simp)
        have f0 : ∀ o, (w2.alloc o).cell? ⟨f, 0, none⟩ = some (.int .i64 kind) := fun o => (HF2.out.alloc o).cell 0
        have f1 : ∀ o, (w2.alloc o).cell? ⟨f, 1, none⟩ = some (.int .i64 at_) := fun o => (HF2.out.alloc o).cell 1
        clear ho2 HF HC HO hm hm8 hj0 hj9
        go_wp2_with fail
        clear f0 f1
        obtain ⟨W4, hW4⟩ : ∃ W4, (w2.alloc (.cells #[.int .i64 0, .int .i64 0] 33)).alloc (.cells #[.int .i64 at_, .int .i64 kind] 39) = W4 := ⟨_, rfl⟩
        have HO4 : Hid (Only [] w W4) := hW4 ▸ (HO2.out.alloc _).alloc _
        have HF4 : Hid (Blk W4 f [.int .i64 kind, .int .i64 at_] 33) := hW4 ▸ (HF2.out.alloc _).alloc _
        have HP4 : Hid (Blk W4 (w2.heap.size + 1) [.int .i64 at_, .int .i64 kind] 39) := hW4 ▸ Blk.new _ _ _ (by simp)
        rw [hW4]
        clear hW4 HO2 HF2
        obtain ⟨p2, hp2⟩ : ∃ p2, w2.heap.size + 1 = p2 := ⟨_, rfl⟩
        rw [hp2] at HP4 ⊢
        clear hp2
        go_loopw [12, 18] (fun E' v wl => ∃ (j : Int) (d d' : Nat), v = .int .i64 j ∧ 0 ≤ j ∧ j ≤ 9 ∧ Cw E' (some p2) d ∧ Ch A true W4 E' (clsOf kind) d' ∧ wl = W4) (fun E' v _ => (n - intOf v).toNat)
        case atStart => exact ⟨0, 1, 2, rfl, by omega, by omega, .loc p2, .loc p2 at_ kind rfl HP4.out, rfl⟩
        case round =>
          obtain ⟨j2, d2, d3, rfl, hj0, hj9, hch, hch3, rfl⟩ := hrel
          obtain ⟨u2, v2, rfl⟩ := hch.iface
          have HC : Hid (Cw (.iface u2 v2) (some p2) d2) := hch
          have HC3 : Hid (Ch A true wr (.iface u2 v2) (clsOf kind) d3) := hch3
          clear hch hch3
          go_wp2_with fail
          · go_roundw
            case rel => exact ⟨j2 + 1, d2 + 1, d3 + 1, rfl, by omega, by omega, .wrap _ _ _ HC.out, .wrap _ _ _ HC3.out, trivial⟩
            case measure => simp [intOf]; omega
          · refine (Of_some (A := A) (HG.out.only HO4.out) HC.out HP4.out).mono ?_
            rintro e w5 ⟨rfl, ho5⟩
            have HO5 : Hid (Only [] w w5) := HO4.out.trans ho5
            have HC5 : Hid (Ch A true w5 (.iface u2 v2) (clsOf kind) d3) := HC3.out.only ho5
            have HF5 : Hid (Blk w5 f [.int .i64 kind, .int .i64 at_] 33) := ho5.blk HF4.out (by simp)
            have f0 : ∀ o, (w5.alloc o).cell? ⟨f, 0, none⟩ = some (.int .i64 kind) := fun o => (HF5.out.alloc o).cell 0
            have f1 : ∀ o, (w5.alloc o).cell? ⟨f, 1, none⟩ = some (.int .i64 at_) := fun o => (HF5.out.alloc o).cell 1
            clear ho5 HF4 HP4 HC HC3 HO4 hn hn8 hj0 hj9
            go_wp2_with fail
            refine (refClass kind _).mono ?_
            rintro e w6 ⟨rfl, rfl⟩
            clear f0 f1
            obtain ⟨W7, hW7⟩ : ∃ W7, w5.alloc (.cells #[.int .i64 kind, .int .i64 at_] 33) = W7 := ⟨_, rfl⟩
            have HO7 : Hid (Only [] w W7) := hW7 ▸ HO5.out.alloc _
            have HC7 : Hid (Ch A true W7 (.iface u2 v2) (clsOf kind) d3) := hW7 ▸ HC5.out.only ((Only.refl _ _).alloc _)
            rw [hW7]
            clear hW7 HO5 HC5 HF5
            go_wp2_with fail
            refine (classes_any A _ (HG.out.only HO7.out)).mono ?_
            rintro e w8 ⟨rfl, hb8, ho8⟩
            have HO8 : Hid (Only [] w w8) := HO7.out.trans ho8
            have HC8 : Hid (Ch A true w8 (.iface u2 v2) (clsOf kind) d3) := HC7.out.only ho8
            have HB8 : Hid (Blk w8 W7.heap.size (six A) 27) := hb8
            clear hb8 ho8 HO7 HC7
            obtain ⟨b8, hb8⟩ : ∃ b8, W7.heap.size = b8 := ⟨_, rfl⟩
            rw [hb8] at HB8 ⊢
            clear hb8
            obtain ⟨q1, q2, q3, q4, q5, q6⟩ := num_eq (clsOf kind) (fun g hg => clsOf_lt hg)
            obtain ⟨nn, hnn⟩ : ∃ nn, numOf (clsOf kind) = nn := ⟨_, rfl⟩
            rw [hnn] at q1 q2 q3 q4 q5 q6
            rw [hnn]
            clear hnn
            have HQ1 := hidden q1
            have HQ2 := hidden q2
            have HQ3 := hidden q3
            have HQ4 := hidden q4
            have HQ5 := hidden q5
            have HQ6 := hidden q6
            clear q1 q2 q3 q4 q5 q6
            go_wp2_with fail
            go_loopw [23] (fun v wl => ∃ j : Nat, v = .int .i64 j ∧ j ≤ 6 ∧ Only [] w8 wl) (fun v _ => (6 - intOf v).toNat)
            case atStart => exact ⟨0, rfl, by omega, Only.refl _ _⟩
            case round =>
              obtain ⟨j3, rfl, hj3, ho⟩ := hrel
              have HGr : Hid (Gl A wr) := HG.out.only (HO8.out.trans ho)
              have HCr : Hid (Ch A true wr (.iface u2 v2) (clsOf kind) d3) := HC8.out.only ho
              have hb := ho.blk HB8.out (by simp)
              have HOr : Hid (Only [] w8 wr) := ho
              clear ho
              rcases (show j3 = 0 ∨ j3 = 1 ∨ j3 = 2 ∨ j3 = 3 ∨ j3 = 4 ∨ j3 = 5 ∨ j3 = 6 by omega) with rfl | rfl | rfl | rfl | rfl | rfl | rfl
              · have c1 : wr.cell? ⟨b8, 0, none⟩ = some (.iface 90 (.pointer (some (A 2)))) := hb.cell 0
                obtain ⟨r, hr⟩ : ∃ r, decide (clsOf kind = some 2) = r := ⟨_, rfl⟩
                have hq := HQ1.out
                rw [hr] at hq
                have HR := hidden hr.symm
                clear hb hr
                go_wp2_with fail
                refine (is_any (A := A) (L := true) 2 r (fun _ => unwraps A) HGr.out (by decide) HCr.out HR.out).mono ?_
                rintro e w9 ⟨rfl, ho9⟩
                go_wp2_with fail
                go_roundw
                case rel => exact ⟨1, rfl, by omega, HOr.out.trans ho9⟩
                case measure => simp [intOf]
              · have c1 : wr.cell? ⟨b8, 1, none⟩ = some (.iface 90 (.pointer (some (A 0)))) := hb.cell 1
                obtain ⟨r, hr⟩ : ∃ r, decide (clsOf kind = some 0) = r := ⟨_, rfl⟩
                have hq := HQ2.out
                rw [hr] at hq
                have HR := hidden hr.symm
                clear hb hr
                go_wp2_with fail
                refine (is_any (A := A) (L := true) 0 r (fun _ => unwraps A) HGr.out (by decide) HCr.out HR.out).mono ?_
                rintro e w9 ⟨rfl, ho9⟩
                go_wp2_with fail
                go_roundw
                case rel => exact ⟨2, rfl, by omega, HOr.out.trans ho9⟩
                case measure => simp [intOf]
              · have c1 : wr.cell? ⟨b8, 2, none⟩ = some (.iface 90 (.pointer (some (A 1)))) := hb.cell 2
                obtain ⟨r, hr⟩ : ∃ r, decide (clsOf kind = some 1) = r := ⟨_, rfl⟩
                have hq := HQ3.out
                rw [hr] at hq
                have HR := hidden hr.symm
                clear hb hr
                go_wp2_with fail
                refine (is_any (A := A) (L := true) 1 r (fun _ => unwraps A) HGr.out (by decide) HCr.out HR.out).mono ?_
                rintro e w9 ⟨rfl, ho9⟩
                go_wp2_with fail
                go_roundw
                case rel => exact ⟨3, rfl, by omega, HOr.out.trans ho9⟩
                case measure => simp [intOf]
              · have c1 : wr.cell? ⟨b8, 3, none⟩ = some (.iface 90 (.pointer (some (A 3)))) := hb.cell 3
                obtain ⟨r, hr⟩ : ∃ r, decide (clsOf kind = some 3) = r := ⟨_, rfl⟩
                have hq := HQ4.out
                rw [hr] at hq
                have HR := hidden hr.symm
                clear hb hr
                go_wp2_with fail
                refine (is_any (A := A) (L := true) 3 r (fun _ => unwraps A) HGr.out (by decide) HCr.out HR.out).mono ?_
                rintro e w9 ⟨rfl, ho9⟩
                go_wp2_with fail
                go_roundw
                case rel => exact ⟨4, rfl, by omega, HOr.out.trans ho9⟩
                case measure => simp [intOf]
              · have c1 : wr.cell? ⟨b8, 4, none⟩ = some (.iface 90 (.pointer (some (A 4)))) := hb.cell 4
                obtain ⟨r, hr⟩ : ∃ r, decide (clsOf kind = some 4) = r := ⟨_, rfl⟩
                have hq := HQ5.out
                rw [hr] at hq
                have HR := hidden hr.symm
                clear hb hr
                go_wp2_with fail
                refine (is_any (A := A) (L := true) 4 r (fun _ => unwraps A) HGr.out (by decide) HCr.out HR.out).mono ?_
                rintro e w9 ⟨rfl, ho9⟩
                go_wp2_with fail
                go_roundw
                case rel => exact ⟨5, rfl, by omega, HOr.out.trans ho9⟩
                case measure => simp [intOf]
              · have c1 : wr.cell? ⟨b8, 5, none⟩ = some (.iface 90 (.pointer (some (A 5)))) := hb.cell 5
                obtain ⟨r, hr⟩ : ∃ r, decide (clsOf kind = some 5) = r := ⟨_, rfl⟩
                have hq := HQ6.out
                rw [hr] at hq
                have HR := hidden hr.symm
                clear hb hr
                go_wp2_with fail
                refine (is_any (A := A) (L := true) 5 r (fun _ => unwraps A) HGr.out (by decide) HCr.out HR.out).mono ?_
                rintro e w9 ⟨rfl, ho9⟩
                go_wp2_with fail
                go_roundw
                case rel => exact ⟨6, rfl, by omega, HOr.out.trans ho9⟩
                case measure => simp [intOf]
              · clear hb
                go_wp2_with fail
                go_ret
                exact ⟨rfl, HO8.out.trans HOr.out⟩
  · obtain ⟨n, hn⟩ : ∃ n, (deep).tmod 9 = n := ⟨_, rfl⟩
    obtain ⟨m, hm⟩ : ∃ m, (below).tmod 9 = m := ⟨_, rfl⟩
    have hn8 : n ≤ 8 := hn ▸ lt9 _
    have hm8 : m ≤ 8 := hm ▸ lt9 _
    clear lt9
    go_enter Tryd.func5, Tryd.ntmps5
    go_wp2_with fail
    refine (shown_any A _ HG.out).mono ?_
    rintro e w1 ⟨rfl, ho1⟩
    have HO1 : Hid (Only [] w w1) := ho1
    clear ho1
    go_wp2_with fail
    obtain ⟨W, hW⟩ : ∃ W, w1.alloc (.cells #[.int .i64 kind, .int .i64 at_] 33) = W := ⟨_, rfl⟩
    have HF : Hid (Blk W w1.heap.size [.int .i64 kind, .int .i64 at_] 33) := hW ▸ Blk.new _ _ _ rfl
    have HO : Hid (Only [] w W) := hW ▸ HO1.out.alloc _
    rw [hW]
    clear hW HO1
    obtain ⟨f, hf⟩ : ∃ f, w1.heap.size = f := ⟨_, rfl⟩
    rw [hf] at HF ⊢
    clear hf
    go_loopw [12, 13] (fun E' v wl => ∃ (j : Int) (d : Nat), v = .int .i64 j ∧ 0 ≤ j ∧ j ≤ 9 ∧ Cw E' none d ∧ wl = W) (fun E' v _ => (m - intOf v).toNat)
    case atStart => exact ⟨0, 1, rfl, by omega, by omega, .other, rfl⟩
    case round =>
      obtain ⟨j, d, rfl, hj0, hj9, hch, rfl⟩ := hrel
      obtain ⟨u1, v1, rfl⟩ := hch.iface
      have HC : Hid (Cw (.iface u1 v1) none d) := hch
      clear hch
      go_wp2_with fail
      · go_roundw
        case rel => exact ⟨j + 1, d + 1, rfl, by omega, by omega, .wrap _ _ _ HC.out, trivial⟩
        case measure => simp [intOf]; omega
      · refine (Of_none (A := A) (HG.out.only HO.out) HC.out).mono ?_
        rintro e w2 ⟨rfl, ho2⟩
        have HO2 : Hid (Only [] w w2) := HO.out.trans ho2
        have HF2 : Hid (Blk w2 f [.int .i64 kind, .int .i64 at_] 33) := ho2.blk HF.out (by simp)
        have f0 : ∀ o, (w2.alloc o).cell? ⟨f, 0, none⟩ = some (.int .i64 kind) := fun o => (HF2.out.alloc o).cell 0
        have f1 : ∀ o, (w2.alloc o).cell? ⟨f, 1, none⟩ = some (.int .i64 at_) := fun o => (HF2.out.alloc o).cell 1
        clear ho2 HF HC HO hm hm8 hj0 hj9
        go_wp2_with fail
        clear f0 f1
        obtain ⟨W4, hW4⟩ : ∃ W4, (w2.alloc (.cells #[.int .i64 0, .int .i64 0] 33)).alloc (.cells #[.int .i64 at_, .int .i64 kind] 39) = W4 := ⟨_, rfl⟩
        have HO4 : Hid (Only [] w W4) := hW4 ▸ (HO2.out.alloc _).alloc _
        have HF4 : Hid (Blk W4 f [.int .i64 kind, .int .i64 at_] 33) := hW4 ▸ (HF2.out.alloc _).alloc _
        have HP4 : Hid (Blk W4 (w2.heap.size + 1) [.int .i64 at_, .int .i64 kind] 39) := hW4 ▸ Blk.new _ _ _ (by simp)
        rw [hW4]
        clear hW4 HO2 HF2
        obtain ⟨p2, hp2⟩ : ∃ p2, w2.heap.size + 1 = p2 := ⟨_, rfl⟩
        rw [hp2] at HP4 ⊢
        clear hp2
        go_loopw [12, 18] (fun E' v wl => ∃ (j : Int) (d d' : Nat), v = .int .i64 j ∧ 0 ≤ j ∧ j ≤ 9 ∧ Cw E' (some p2) d ∧ Ch A true W4 E' (clsOf kind) d' ∧ wl = W4) (fun E' v _ => (n - intOf v).toNat)
        case atStart => exact ⟨0, 1, 2, rfl, by omega, by omega, .loc p2, .loc p2 at_ kind rfl HP4.out, rfl⟩
        case round =>
          obtain ⟨j2, d2, d3, rfl, hj0, hj9, hch, hch3, rfl⟩ := hrel
          obtain ⟨u2, v2, rfl⟩ := hch.iface
          have HC : Hid (Cw (.iface u2 v2) (some p2) d2) := hch
          have HC3 : Hid (Ch A true wr (.iface u2 v2) (clsOf kind) d3) := hch3
          clear hch hch3
          go_wp2_with fail
          · go_roundw
            case rel => exact ⟨j2 + 1, d2 + 1, d3 + 1, rfl, by omega, by omega, .wrap _ _ _ HC.out, .wrap _ _ _ HC3.out, trivial⟩
            case measure => simp [intOf]; omega
          · refine (Of_some (A := A) (HG.out.only HO4.out) HC.out HP4.out).mono ?_
            rintro e w5 ⟨rfl, ho5⟩
            have HO5 : Hid (Only [] w w5) := HO4.out.trans ho5
            have HC5 : Hid (Ch A true w5 (.iface u2 v2) (clsOf kind) d3) := HC3.out.only ho5
            have HF5 : Hid (Blk w5 f [.int .i64 kind, .int .i64 at_] 33) := ho5.blk HF4.out (by simp)
            have f0 : ∀ o, (w5.alloc o).cell? ⟨f, 0, none⟩ = some (.int .i64 kind) := fun o => (HF5.out.alloc o).cell 0
            have f1 : ∀ o, (w5.alloc o).cell? ⟨f, 1, none⟩ = some (.int .i64 at_) := fun o => (HF5.out.alloc o).cell 1
            clear ho5 HF4 HP4 HC HC3 HO4 hn hn8 hj0 hj9
            go_wp2_with fail
            refine (refClass kind _).mono ?_
            rintro e w6 ⟨rfl, rfl⟩
            clear f0 f1
            obtain ⟨W7, hW7⟩ : ∃ W7, w5.alloc (.cells #[.int .i64 kind, .int .i64 at_] 33) = W7 := ⟨_, rfl⟩
            have HO7 : Hid (Only [] w W7) := hW7 ▸ HO5.out.alloc _
            have HC7 : Hid (Ch A true W7 (.iface u2 v2) (clsOf kind) d3) := hW7 ▸ HC5.out.only ((Only.refl _ _).alloc _)
            rw [hW7]
            clear hW7 HO5 HC5 HF5
            go_wp2_with fail
            refine (classes_any A _ (HG.out.only HO7.out)).mono ?_
            rintro e w8 ⟨rfl, hb8, ho8⟩
            have HO8 : Hid (Only [] w w8) := HO7.out.trans ho8
            have HC8 : Hid (Ch A true w8 (.iface u2 v2) (clsOf kind) d3) := HC7.out.only ho8
            have HB8 : Hid (Blk w8 W7.heap.size (six A) 27) := hb8
            clear hb8 ho8 HO7 HC7
            obtain ⟨b8, hb8⟩ : ∃ b8, W7.heap.size = b8 := ⟨_, rfl⟩
            rw [hb8] at HB8 ⊢
            clear hb8
            obtain ⟨q1, q2, q3, q4, q5, q6⟩ := num_eq (clsOf kind) (fun g hg => clsOf_lt hg)
            obtain ⟨nn, hnn⟩ : ∃ nn, numOf (clsOf kind) = nn := ⟨_, rfl⟩
            rw [hnn] at q1 q2 q3 q4 q5 q6
            rw [hnn]
            clear hnn
            have HQ1 := hidden q1
            have HQ2 := hidden q2
            have HQ3 := hidden q3
            have HQ4 := hidden q4
            have HQ5 := hidden q5
            have HQ6 := hidden q6
            clear q1 q2 q3 q4 q5 q6
            go_wp2_with fail
            go_loopw [23] (fun v wl => ∃ j : Nat, v = .int .i64 j ∧ j ≤ 6 ∧ Only [] w8 wl) (fun v _ => (6 - intOf v).toNat)
            case atStart => exact ⟨0, rfl, by omega, Only.refl _ _⟩
            case round =>
              obtain ⟨j3, rfl, hj3, ho⟩ := hrel
              have HGr : Hid (Gl A wr) := HG.out.only (HO8.out.trans ho)
              have HCr : Hid (Ch A true wr (.iface u2 v2) (clsOf kind) d3) := HC8.out.only ho
              have hb := ho.blk HB8.out (by simp)
              have HOr : Hid (Only [] w8 wr) := ho
              clear ho
              rcases (show j3 = 0 ∨ j3 = 1 ∨ j3 = 2 ∨ j3 = 3 ∨ j3 = 4 ∨ j3 = 5 ∨ j3 = 6 by omega) with rfl | rfl | rfl | rfl | rfl | rfl | rfl
              · have c1 : wr.cell? ⟨b8, 0, none⟩ = some (.iface 90 (.pointer (some (A 2)))) := hb.cell 0
                obtain ⟨r, hr⟩ : ∃ r, decide (clsOf kind = some 2) = r := ⟨_, rfl⟩
                have hq := HQ1.out
                rw [hr] at hq
                have HR := hidden hr.symm
                clear hb hr
                go_wp2_with fail
                refine (is_any (A := A) (L := true) 2 r (fun _ => unwraps A) HGr.out (by decide) HCr.out HR.out).mono ?_
                rintro e w9 ⟨rfl, ho9⟩
                go_wp2_with fail
                go_roundw
                case rel => exact ⟨1, rfl, by omega, HOr.out.trans ho9⟩
                case measure => simp [intOf]
              · have c1 : wr.cell? ⟨b8, 1, none⟩ = some (.iface 90 (.pointer (some (A 0)))) := hb.cell 1
                obtain ⟨r, hr⟩ : ∃ r, decide (clsOf kind = some 0) = r := ⟨_, rfl⟩
                have hq := HQ2.out
                rw [hr] at hq
                have HR := hidden hr.symm
                clear hb hr
                go_wp2_with fail
                refine (is_any (A := A) (L := true) 0 r (fun _ => unwraps A) HGr.out (by decide) HCr.out HR.out).mono ?_
                rintro e w9 ⟨rfl, ho9⟩
                go_wp2_with fail
                go_roundw
                case rel => exact ⟨2, rfl, by omega, HOr.out.trans ho9⟩
                case measure => simp [intOf]
              · have c1 : wr.cell? ⟨b8, 2, none⟩ = some (.iface 90 (.pointer (some (A 1)))) := hb.cell 2
                obtain ⟨r, hr⟩ : ∃ r, decide (clsOf kind = some 1) = r := ⟨_, rfl⟩
                have hq := HQ3.out
                rw [hr] at hq
                have HR := hidden hr.symm
                clear hb hr
                go_wp2_with fail
                refine (is_any (A := A) (L := true) 1 r (fun _ => unwraps A) HGr.out (by decide) HCr.out HR.out).mono ?_
                rintro e w9 ⟨rfl, ho9⟩
                go_wp2_with fail
                go_roundw
                case rel => exact ⟨3, rfl, by omega, HOr.out.trans ho9⟩
                case measure => simp [intOf]
              · have c1 : wr.cell? ⟨b8, 3, none⟩ = some (.iface 90 (.pointer (some (A 3)))) := hb.cell 3
                obtain ⟨r, hr⟩ : ∃ r, decide (clsOf kind = some 3) = r := ⟨_, rfl⟩
                have hq := HQ4.out
                rw [hr] at hq
                have HR := hidden hr.symm
                clear hb hr
                go_wp2_with fail
                refine (is_any (A := A) (L := true) 3 r (fun _ => unwraps A) HGr.out (by decide) HCr.out HR.out).mono ?_
                rintro e w9 ⟨rfl, ho9⟩
                go_wp2_with fail
                go_roundw
                case rel => exact ⟨4, rfl, by omega, HOr.out.trans ho9⟩
                case measure => simp [intOf]
              · have c1 : wr.cell? ⟨b8, 4, none⟩ = some (.iface 90 (.pointer (some (A 4)))) := hb.cell 4
                obtain ⟨r, hr⟩ : ∃ r, decide (clsOf kind = some 4) = r := ⟨_, rfl⟩
                have hq := HQ5.out
                rw [hr] at hq
                have HR := hidden hr.symm
                clear hb hr
                go_wp2_with fail
                refine (is_any (A := A) (L := true) 4 r (fun _ => unwraps A) HGr.out (by decide) HCr.out HR.out).mono ?_
                rintro e w9 ⟨rfl, ho9⟩
                go_wp2_with fail
                go_roundw
                case rel => exact ⟨5, rfl, by omega, HOr.out.trans ho9⟩
                case measure => simp [intOf]
              · have c1 : wr.cell? ⟨b8, 5, none⟩ = some (.iface 90 (.pointer (some (A 5)))) := hb.cell 5
                obtain ⟨r, hr⟩ : ∃ r, decide (clsOf kind = some 5) = r := ⟨_, rfl⟩
                have hq := HQ6.out
                rw [hr] at hq
                have HR := hidden hr.symm
                clear hb hr
                go_wp2_with fail
                refine (is_any (A := A) (L := true) 5 r (fun _ => unwraps A) HGr.out (by decide) HCr.out HR.out).mono ?_
                rintro e w9 ⟨rfl, ho9⟩
                go_wp2_with fail
                go_roundw
                case rel => exact ⟨6, rfl, by omega, HOr.out.trans ho9⟩
                case measure => simp [intOf]
              · clear hb
                go_wp2_with fail
                go_ret
                exact ⟨rfl, HO8.out.trans HOr.out⟩
end Go.Proofs.YtnmaoodghbkmcaaDoor.faultFound
