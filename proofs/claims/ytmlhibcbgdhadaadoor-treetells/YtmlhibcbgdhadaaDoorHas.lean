/- What a node has: asked of its attributes. -/
import Derived.Test.YtmlhibcbgdhadaaDoorAtts
namespace Go.Proofs.YtmlhibcbgdhadaaDoor
open Go.RowKit

/-- the attributes' bits, whether they are away, whether they are right -/
def aBit : Nat → Int
  | 0 => 4
  | 1 => 8
  | 2 => 1
  | 3 => 2
  | 4 => 16
  | 5 => 32
  | _ => 64
def aNm : Nat → ByteArray
  | 0 => { data := #[119, 105, 100, 116, 104] }
  | 1 => { data := #[104, 101, 105, 103, 104, 116] }
  | 2 => { data := #[102, 111, 110, 116] }
  | 3 => { data := #[115, 105, 122, 101] }
  | 4 => { data := #[108, 101, 97, 100] }
  | 5 => { data := #[115, 107, 105, 112] }
  | _ => { data := #[116, 111, 108] }
def aVl (x : Nd) : Nat → ByteArray
  | 0 => prT x.width
  | 1 => prT x.height
  | 2 => x.font
  | 3 => prT x.size
  | 4 => prT x.lead
  | 5 => prT x.skip
  | _ => tolS x.tol
def aZ (x : Nd) : Nat → Bool
  | 0 => x.width == 0
  | 1 => x.height == 0
  | 2 => decide (x.font.size = 0)
  | 3 => x.size == 0
  | 4 => x.lead == 0
  | 5 => x.skip == 0
  | _ => x.tol == 0
def aR (x : Nd) : Nat → Bool
  | 0 => rt x.width 1 536870912
  | 1 => rt x.height 1 536870912
  | 2 => nam x.font
  | 3 => rt x.size 1 67108864
  | 4 => rt x.lead 0 536870912
  | 5 => rt x.skip 0 536870912
  | _ => tolB x.tol
def okA (x : Nd) (j : Nat) : Bool := if hb x (aBit j) then aR x j else aZ x j
theorem atts_idx (x : Nd) (k : Nat) (hk : k < 7) (W : World) : (Instr.index 85 (.agg (attsC x).toArray) (.int .i64 (k : Int))).run Tryd.prog W = .ok (.agg #[.int .i64 (aBit k), .string (aNm k), .string (aVl x k), .bool (aZ x k), .bool (aR x k)]) W := by
  obtain rfl | rfl | rfl | rfl | rfl | rfl | rfl : k = 0 ∨ k = 1 ∨ k = 2 ∨ k = 3 ∨ k = 4 ∨ k = 5 ∨ k = 6 := by omega
  all_goals kernel_rfl
theorem rt_lng {b : Bool} {v lo hi : Int} (h0 : 0 ≤ lo) (h1 : hi ≤ 70368744177664) : (if b then rt v lo hi else v == 0) = lng b v lo hi := by
  unfold lng rt pe
  cases b
  · simp only [Bool.false_eq_true, if_false]
    rw [Bool.eq_iff_iff]; simp
  · simp only [if_true]
    rw [Bool.eq_iff_iff]
    simp only [Bool.and_eq_true, decide_eq_true_eq]
    constructor
    · rintro ⟨⟨_, h3⟩, h4⟩; exact ⟨h3, h4⟩
    · rintro ⟨h3, h4⟩
      exact ⟨⟨if_pos ⟨by omega, by omega⟩, h3⟩, h4⟩
theorem atr_eq (x : Nd) : atr x = (bits .andNot .i64 x.has (may x.kind) == 0 && (x.kind != 1 || bits .and .i64 x.has 12 == 12) && (List.range 7).all (okA x)) := by
  have e : (List.range 7).all (okA x) = (okA x 0 && (okA x 1 && (okA x 2 && (okA x 3 && (okA x 4 && (okA x 5 && okA x 6)))))) := by simp [List.range, List.range.loop]
  rw [e]
  have a0 : okA x 0 = lng (hb x 4) x.width 1 536870912 := rt_lng (by decide) (by decide)
  have a1 : okA x 1 = lng (hb x 8) x.height 1 536870912 := rt_lng (by decide) (by decide)
  have a2 : okA x 2 = (if hb x 1 then nam x.font else decide (x.font.size = 0)) := rfl
  have a3 : okA x 3 = lng (hb x 2) x.size 1 67108864 := rt_lng (by decide) (by decide)
  have a4 : okA x 4 = lng (hb x 16) x.lead 0 536870912 := rt_lng (by decide) (by decide)
  have a5 : okA x 5 = lng (hb x 32) x.skip 0 536870912 := rt_lng (by decide) (by decide)
  have a6 : okA x 6 = lng (hb x 64) x.tol 0 10000 := by
    show (if hb x 64 then tolB x.tol else x.tol == 0) = _
    unfold lng tolB
    cases hb x 64
    · rw [Bool.eq_iff_iff]; simp
    · rfl
  rw [a0, a1, a2, a3, a4, a5, a6]
  unfold atr
  generalize lng (hb x 4) x.width 1 536870912 = b0
  generalize lng (hb x 8) x.height 1 536870912 = b1
  generalize (if hb x 1 = true then nam x.font else decide (x.font.size = 0)) = b2
  generalize lng (hb x 2) x.size 1 67108864 = b3
  generalize lng (hb x 16) x.lead 0 536870912 = b4
  generalize lng (hb x 32) x.skip 0 536870912 = b5
  generalize lng (hb x 64) x.tol 0 10000 = b6
  generalize (bits BinOp.andNot IntKind.i64 x.has (may x.kind) == 0) = c0
  generalize (x.kind != 1 || bits BinOp.and IntKind.i64 x.has 12 == 12) = c1
  revert b0 b1 b2 b3 b4 b5 b6 c0 c1
  decide
theorem and_zero (h : Int) : bits .and .i64 h 0 = 0 := by
  have e : BitVec.ofInt IntKind.i64.bits h &&& BitVec.ofInt IntKind.i64.bits 0 = 0 := by
    show BitVec.ofInt 64 h &&& 0#64 = 0#64
    exact BitVec.and_zero
  unfold bits
  simp only [e]
  rfl
theorem must_eq (x : Nd) {k : Nat} (hk : x.kind = (k : Int)) : (bits .and .i64 x.has (kMust k) == kMust k) = (x.kind != 1 || bits .and .i64 x.has 12 == 12) := by
  unfold kMust
  by_cases h : (k : Int) = 1
  · rw [if_pos h, hk, h]; rfl
  · rw [if_neg h, and_zero, hk]
    have : ((k : Int) != 1) = true := by simpa using h
    rw [this]; rfl

set_option maxRecDepth 100000 in
set_option maxHeartbeats 8000000 in
theorem has_any (x : Nd × Value) {k : Nat} (hf : Fit x.1) (hk : x.1.kind = (k : Int)) (h1 : 1 ≤ k) (h5 : k ≤ 5) (w : World) (hT : Tt w) :
    Calls Tryd.prog 47 #[.agg (ndc x).toArray] w fun e w' => e = .returned (.bool (atr x.1)) ∧ Only [] w w' := by
  have HK := hid (fun W (o : Only [] w W) => kindOf_c hk h1 h5 W (hT.still o))
  have HA := hid (fun W (o : Only [] w W) => atts_any x hf W (hT.still o))
  have HIX := hid (atts_idx x.1)
  have hA := atr_eq x.1
  rw [← must_eq x.1 hk, hk] at hA
  obtain ⟨b0, hb0⟩ : ∃ b0, (bits .andNot .i64 x.1.has (may k) == 0) = b0 := ⟨_, rfl⟩
  obtain ⟨b1, hb1⟩ : ∃ b1, (bits .and .i64 x.1.has (kMust k) == kMust k) = b1 := ⟨_, rfl⟩
  rw [hb0, hb1] at hA
  unfold kindC at HK
  obtain ⟨kn, hkn⟩ : ∃ kn, kName (k : Int) = kn := ⟨_, rfl⟩
  obtain ⟨ki, hki⟩ : ∃ ki, kIn (k : Int) = ki := ⟨_, rfl⟩
  obtain ⟨km, hkm⟩ : ∃ km, may (k : Int) = km := ⟨_, rfl⟩
  obtain ⟨ku, hku⟩ : ∃ ku, kMust (k : Int) = ku := ⟨_, rfl⟩
  rw [hkn, hki, hkm, hku] at HK
  rw [hkm] at hb0
  rw [hku] at hb1
  have HAT := hid hA
  obtain ⟨AV, hAV⟩ : ∃ AV, Value.agg (attsC x.1).toArray = AV := ⟨_, rfl⟩
  rw [hAV] at HA HIX
  unfold ndc at HK HA ⊢
  have HKK := hid hk
  clear hkn hki hkm hku hA hAV hT hf hk h1 h5
  have n0 : (bits .andNot .i64 x.1.has km != 0) = !b0 := by rw [← hb0]; rfl
  have n1 : (bits .and .i64 x.1.has ku != ku) = !b1 := by rw [← hb1]; rfl
  cases b0
  · simp only [Bool.not_false] at n0
    have HN : Hid (atr x.1 = false) := by show _ = _; rw [HAT.out]; rfl
    clear hb1 n1
    go_enter Tryd.func47, Tryd.ntmps47
    go_wp2_with fail
    refine (HK.out _ ((Only.refl _ _).alloc _)).mono ?_
    rintro e w1 ⟨rfl, ho⟩
    have HO := hid ((Only.refl [] w).alloc _ |>.trans ho)
    have hb := ho.blk (Blk.new w _ 42 rfl) (by simp)
    have c4 : w1.cell? ⟨w.heap.size, 4, none⟩ = some (.int .i64 x.1.has) := hb.cell 4
    have hlt := hb.lt
    clear ho
    have hc : ∀ i u, (ndc x)[i]? = some u → w1.cell? ⟨w.heap.size, i, none⟩ = some u := fun i u hu => (hb.cell i).trans hu
    have HC := hid hc
    clear hb hc
    go_wp2_with fail
    go_ret
    exact ⟨ret_bool HN.out.symm, HO.out.alloc _⟩
  · simp only [Bool.not_true] at n0
    cases b1
    · simp only [Bool.not_false] at n1
      have HN : Hid (atr x.1 = false) := by show _ = _; rw [HAT.out]; rfl
      clear hb0
      go_enter Tryd.func47, Tryd.ntmps47
      go_wp2_with fail
      refine (HK.out _ ((Only.refl _ _).alloc _)).mono ?_
      rintro e w1 ⟨rfl, ho⟩
      have HO := hid ((Only.refl [] w).alloc _ |>.trans ho)
      have hb := ho.blk (Blk.new w _ 42 rfl) (by simp)
      have c4 : w1.cell? ⟨w.heap.size, 4, none⟩ = some (.int .i64 x.1.has) := hb.cell 4
      have hlt := hb.lt
      clear ho hb
      go_wp2_with fail
      go_ret
      exact ⟨ret_bool HN.out.symm, HO.out.alloc _⟩
    · simp only [Bool.not_true] at n1
      have HN : Hid (atr x.1 = (List.range 7).all (okA x.1)) := by show _ = _; rw [HAT.out]; rfl
      clear hb0 hb1
      go_enter Tryd.func47, Tryd.ntmps47
      go_wp2_with fail
      refine (HK.out _ ((Only.refl _ _).alloc _)).mono ?_
      rintro e w1 ⟨rfl, ho⟩
      have HO := hid ((Only.refl [] w).alloc _ |>.trans ho)
      have hb := ho.blk (Blk.new w _ 42 rfl) (by simp)
      have c4 : w1.cell? ⟨w.heap.size, 4, none⟩ = some (.int .i64 x.1.has) := hb.cell 4
      have hlt := hb.lt
      have HB := hid hb
      have cs : ∀ o : Obj, ∀ i u, [Value.int .i64 x.1.kind, .int .i64 x.1.par, .int .i64 x.1.at_, .int .i64 x.1.fin, .int .i64 x.1.has, .string x.1.font, .int .i64 x.1.size, .int .i64 x.1.width, .int .i64 x.1.height, .int .i64 x.1.lead, .int .i64 x.1.skip, .int .i64 x.1.tol, x.2][i]? = some u → (w1.alloc o).cell? ⟨w.heap.size, i, none⟩ = some u := fun o i u hu => (cell_past w1 o _ i hlt).trans ((hb.cell i).trans hu)
      have d0 := fun o => cs o 0 _ rfl
      have d1 := fun o => cs o 1 _ rfl
      have d2 := fun o => cs o 2 _ rfl
      have d3 := fun o => cs o 3 _ rfl
      have d4 := fun o => cs o 4 _ rfl
      have d5 := fun o => cs o 5 _ rfl
      have d6 := fun o => cs o 6 _ rfl
      have d7 := fun o => cs o 7 _ rfl
      have d8 := fun o => cs o 8 _ rfl
      have d9 := fun o => cs o 9 _ rfl
      have d10 := fun o => cs o 10 _ rfl
      have d11 := fun o => cs o 11 _ rfl
      have d12 := fun o => cs o 12 _ rfl
      clear ho hb cs
      go_wp2_with fail
      refine (HA.out _ (HO.out.alloc _)).mono ?_
      rintro e w2 ⟨rfl, ho2⟩
      have HO2 := hid ((HO.out.alloc _).trans ho2)
      have hb2 := ho2.blk (HB.out.alloc _) (by simp)
      have HB2 := hid hb2
      clear ho2 hb2 d0 d1 d2 d3 d4 d5 d6 d7 d8 d9 d10 d11 d12 c4
      go_wp2_with fail
      go_loopw [26] (fun i wr => ∃ j : Nat, i = .int .i64 j ∧ j ≤ 7 ∧ Hid (∀ l, l < j → okA x.1 l = true) ∧ Only [] w2 wr) (fun i _ => 8 - (RowKit.intOf i).toNat)
      case atStart => exact ⟨0, rfl, by omega, fun l hl => by omega, Only.refl _ _⟩
      case round =>
        obtain ⟨j, rfl, hj, hall, ho⟩ := hrel
        have HO3 := hid ho
        have hb3 := ho.blk HB2.out (by simp)
        have c4 : wr.cell? ⟨w.heap.size, 4, none⟩ = some (.int .i64 x.1.has) := hb3.cell 4
        have hlt3 := hb3.lt
        clear ho hb3
        by_cases h7 : j < 7
        · have hix := fun W => HIX.out j h7 W
          have hok : Hid (okA x.1 j = if hb x.1 (aBit j) then aR x.1 j else aZ x.1 j) := rfl
          have hjl : (j : Int) < 7 := by omega
          have H7 := hid h7
          obtain ⟨bt, hbt⟩ : ∃ bt, aBit j = bt := ⟨_, rfl⟩
          obtain ⟨nm, hnm⟩ : ∃ nm, aNm j = nm := ⟨_, rfl⟩
          obtain ⟨vl, hvl⟩ : ∃ vl, aVl x.1 j = vl := ⟨_, rfl⟩
          obtain ⟨z, hz⟩ : ∃ z, aZ x.1 j = z := ⟨_, rfl⟩
          obtain ⟨r, hr⟩ : ∃ r, aR x.1 j = r := ⟨_, rfl⟩
          rw [hbt, hnm, hvl, hz, hr] at hix
          rw [hbt, hz, hr] at hok
          clear hbt hnm hvl hz hr h7
          have hj0 : (0 : Int) ≤ (j : Int) := by omega
          have hne : ¬ w.heap.size = wr.heap.size := by omega
          rcases hh : hb x.1 bt with _ | _
          · rw [hh] at hok
            have e1 : (bits .and .i64 x.1.has bt == 0) = true := by unfold hb at hh; simpa using hh
            have e2 : (bits .and .i64 x.1.has bt != 0) = false := hh
            clear hh
            cases z
            · have HF : Hid (atr x.1 = false) := by
                show _ = _
                rw [HN.out, List.all_eq_false]
                exact ⟨j, List.mem_range.2 H7.out, by rw [hok.out]; simp⟩
              go_wp2_with fail
              go_ret
              exact ⟨ret_bool HF.out.symm, (HO2.out.trans HO3.out).alloc _⟩
            · go_wp2_with fail
              go_roundw
              case rel =>
                refine ⟨j + 1, by go_num, H7.out, fun l hl => ?_, HO3.out.alloc _⟩
                by_cases e : l = j
                · subst e; exact hok.out
                · exact hall.out l (by omega)
              case measure => have := H7.out; simp [RowKit.intOf]; omega
          · rw [hh] at hok
            have e1 : (bits .and .i64 x.1.has bt == 0) = false := by unfold hb at hh; simpa using hh
            have e2 : (bits .and .i64 x.1.has bt != 0) = true := hh
            clear hh
            cases r
            · have HF : Hid (atr x.1 = false) := by
                show _ = _
                rw [HN.out, List.all_eq_false]
                exact ⟨j, List.mem_range.2 H7.out, by rw [hok.out]; simp⟩
              go_wp2_with fail
              go_ret
              exact ⟨ret_bool HF.out.symm, (HO2.out.trans HO3.out).alloc _⟩
            · go_wp2_with fail
              go_roundw
              case rel =>
                refine ⟨j + 1, by go_num, H7.out, fun l hl => ?_, HO3.out.alloc _⟩
                by_cases e : l = j
                · subst e; exact hok.out
                · exact hall.out l (by omega)
              case measure => have := H7.out; simp [RowKit.intOf]; omega
        · have hjl : ¬ (j : Int) < 7 := by omega
          have HT : Hid (atr x.1 = true) := by
            show _ = _
            rw [HN.out, List.all_eq_true]
            intro l hl
            exact hall.out l (by have := List.mem_range.1 hl; omega)
          go_wp2_with fail
          go_ret
          exact ⟨ret_bool HT.out.symm, HO2.out.trans HO3.out⟩
end Go.Proofs.YtmlhibcbgdhadaaDoor
