/- decimal: the number at a text's front, and what stands behind it. -/
import Derived.Test.YtapnmopcmlcfbaaDoorNear
namespace Go.Proofs.YtapnmopcmlcfbaaDoor
open Go.RowKit

theorem dot_yes {s : ByteArray} (h : (bl s).head? = some 46) : Lib.hasPrefix s.data.toList [46] = true ∧ ∃ c : ByteArray, (⟨(Lib.trimPrefix s.data.toList [46]).toArray⟩ : ByteArray) = c ∧ bl c = (bl s).drop 1 := by
  unfold bl at h
  rcases hl : s.data.toList with _ | ⟨a, t⟩
  · rw [hl] at h; cases h
  · rw [hl] at h
    have ha : a = 46 := by
      have h2 : a.toNat = 46 := by simpa using h
      exact UInt8.toNat_inj.1 h2
    subst ha
    refine ⟨by simp [Lib.hasPrefix], _, rfl, ?_⟩
    unfold bl
    rw [hl]
    simp [Lib.trimPrefix, Lib.hasPrefix]
theorem dot_no {s : ByteArray} (h : (bl s).head? ≠ some 46) : Lib.hasPrefix s.data.toList [46] = false ∧ (⟨(Lib.trimPrefix s.data.toList [46]).toArray⟩ : ByteArray) = s := by
  unfold bl at h
  rcases hl : s.data.toList with _ | ⟨a, t⟩
  · have : Lib.hasPrefix ([] : List UInt8) [46] = false := by decide
    refine ⟨this, ?_⟩
    unfold Lib.trimPrefix
    rw [this]
    cases s; congr 1; exact Array.ext' hl.symm
  · rw [hl] at h
    have ha : ¬ a = 46 := fun e => h (by rw [e]; rfl)
    have : Lib.hasPrefix (a :: t) [46] = false := by
      show ((46 : UInt8) == a && _) = false
      rw [beq_eq_false_iff_ne.2 (fun e => ha e.symm)]; rfl
    refine ⟨this, ?_⟩
    unfold Lib.trimPrefix
    rw [this]
    cases s; congr 1; exact Array.ext' hl.symm
/-- what decimal answers -/
def DecPost (l : List Nat) (e : Ending) : Prop :=
  match form l with
  | none => e = .returned (.tuple #[.agg #[.int .u64 0, .int .u64 0], .string { data := #[] }, .bool false])
  | some (p, k, u) => ∃ b, bl b = u ∧ e = .returned (.tuple #[.agg #[.int .u64 p, .int .u64 (10 ^ k : Nat)], .string b, .bool true])
theorem dec_none {l : List Nat} {e : Ending} (h : form l = none) (he : e = .returned (.tuple #[.agg #[.int .u64 0, .int .u64 0], .string { data := #[] }, .bool false])) : DecPost l e := by unfold DecPost; rw [h]; exact he
theorem dec_some {l : List Nat} {e : Ending} {p k : Nat} {u : List Nat} (h : form l = some (p, k, u)) {b : ByteArray} (hb : bl b = u) (he : e = .returned (.tuple #[.agg #[.int .u64 p, .int .u64 (10 ^ k : Nat)], .string b, .bool true])) : DecPost l e := by unfold DecPost; rw [h]; exact ⟨b, hb, he⟩

theorem dot_bytes : ({ data := #[46] } : ByteArray).data.toList = [46] := rfl
/-- strings.CutPrefix at a point -/
theorem cut_yes {s : ByteArray} (h : (bl s).head? = some 46) : ∃ c : ByteArray, bl c = (bl s).drop 1 ∧ ∀ W, Calls Tryd.prog 27 #[.string s, .string { data := #[46] }] W fun e w' => e = .returned (.tuple #[.string c, .bool true]) ∧ w' = W := by
  obtain ⟨h1, c, h2, h3⟩ := dot_yes h
  refine ⟨c, h3, fun W => ?_⟩
  have := Tryd.strings_CutPrefix s { data := #[46] } W
  rw [dot_bytes, h1, h2] at this
  exact this
theorem cut_no {s : ByteArray} (h : (bl s).head? ≠ some 46) : ∀ W, Calls Tryd.prog 27 #[.string s, .string { data := #[46] }] W fun e w' => e = .returned (.tuple #[.string s, .bool false]) ∧ w' = W := by
  obtain ⟨h1, h2⟩ := dot_no h
  intro W
  have := Tryd.strings_CutPrefix s { data := #[46] } W
  rw [dot_bytes, h1, h2] at this
  exact this

set_option maxRecDepth 100000 in
set_option maxHeartbeats 4000000 in
theorem decimal_any (s : ByteArray) (w : World) (hs : s.size ≤ 140737488355328) :
    Calls Tryd.prog 16 #[.string s] w fun e w' => DecPost (bl s) e ∧ Only [] w w' := by
  have hdz := dg_size s
  go_enter Tryd.func16, Tryd.ntmps16
  go_wp2_with fail
  obtain ⟨W0, hW0⟩ : ∃ W0, w.alloc (.cells #[.int .u64 0, .int .u64 0] 37) = W0 := ⟨_, rfl⟩
  obtain ⟨b0, hb0⟩ : ∃ b0, w.heap.size = b0 := ⟨_, rfl⟩
  have HB0 := hid hb0
  have HK0 : Hid (Blk W0 b0 [.int .u64 0, .int .u64 0] 37) := by rw [← hW0]; exact Blk.new _ _ _ hb0
  have HO0 : Hid (Only [] w W0) := by rw [← hW0]; exact (Only.refl _ _).alloc _
  rw [hW0, hb0]
  clear hW0 hb0
  refine (digitsOf_any s _ hs).mono ?_
  rintro e w1 ⟨f, r, rfl, hf, hr, ho⟩
  have hk1 := ho.blk HK0.out (by simp)
  have HF := hid hf
  have HR := hid hr
  have HO1 := hid (HO0.out.trans ho)
  have hfs : f.size = dg (bl s) := by rw [size_of_bl hf, List.length_take, bl_length]; omega
  have hrs : r.size = s.size - dg (bl s) := by rw [size_of_bl hr, List.length_drop, bl_length]
  have hfz : f.size ≤ 140737488355328 := by omega
  have hrz : r.size ≤ 140737488355328 := by omega
  have HK1 := hid hk1
  have hbl1 := hk1.lt
  clear hf hr ho hk1
  by_cases h1 : 0 < f.size ∧ (f.size : Int) ≤ 15
  · have hub : upB 15 f = true := by unfold upB; exact decide_eq_true h1
    have HU := hid (fun W => upTo_any 15 f W hfz)
    rw [hub] at HU
    have hdf : Dgs (bl f) := by rw [HF.out]; exact dg_pre _
    have hfl : (bl f).length ≤ 15 := by rw [bl_length]; omega
    have hlt := num_lt hdf
    have hpw : 10 ^ (bl f).length ≤ 1000000000000000 := Nat.pow_le_pow_right (by decide) hfl
    have HV := hid (fun W => value_any 0 f W hfz hdf (by omega))
    obtain ⟨x, hx⟩ : ∃ x, num 0 (bl f) = x := ⟨_, rfl⟩
    rw [hx] at HV hlt
    have hx0 : x < 1000000000000000 := by omega
    have HX0 := hid hx0
    have hdg : ¬ (dg (bl s) < 1 ∨ 15 < dg (bl s)) := by omega
    have hxs : num 0 ((bl s).take (dg (bl s))) = x := by rw [← HF.out]; exact hx
    have HDG := hid hdg
    have HXS := hid hxs
    clear hub hdf hfl hlt hpw hx hx0 hdg hxs h1 hfs hrs
    go_wp2_with fail
    refine (HU.out _).mono ?_
    rintro e w2 ⟨rfl, rfl⟩
    go_wp2_with fail
    refine (HV.out _).mono ?_
    rintro e w3 ⟨rfl, ho3⟩
    have HK3 := hid (ho3.blk HK1.out (by simp))
    have HO3 := hid (HO1.out.trans ho3)
    clear ho3
    by_cases hdot : (bl r).head? = some 46
    · obtain ⟨c, hcb, hC⟩ := cut_yes hdot
      have HC := hid hC
      have hcs : c.size ≤ 140737488355328 := by
        have := size_of_bl hcb
        rw [List.length_drop, bl_length] at this
        omega
      have HCB := hid hcb
      have HDOT := hid hdot
      clear hcb hdot hC
      go_wp2_with fail
      obtain ⟨W4, hW4⟩ : ∃ W4, w3.alloc (.cells #[.int .u64 x, .int .u64 1] 37) = W4 := ⟨_, rfl⟩
      obtain ⟨b1, hb1⟩ : ∃ b1, w3.heap.size = b1 := ⟨_, rfl⟩
      have HK4 : Hid (Blk W4 b1 [.int .u64 x, .int .u64 1] 37) := by rw [← hW4]; exact Blk.new _ _ _ hb1
      have HJ4 : Hid (Blk W4 b0 [.int .u64 0, .int .u64 0] 37) := by rw [← hW4]; exact HK3.out.alloc _
      have HO4 : Hid (Only [] w W4) := by rw [← hW4]; exact HO3.out.alloc _
      have HB1 : Hid (b0 < b1 ∧ w.heap.size ≤ b1) := by have := HK3.out.lt; have h := HB0.out; show _ ∧ _; omega
      rw [hW4, hb1]
      clear hW4 hb1
      refine (HC.out _).mono ?_
      rintro e w5 ⟨rfl, rfl⟩
      go_wp2_with fail
      refine (digitsOf_any c _ hcs).mono ?_
      rintro e w6 ⟨f2, r2, rfl, hf2, hr2, ho6⟩
      have HF2 := hid hf2
      have HR2 := hid hr2
      have HK6 := hid (ho6.blk HK4.out (by simp))
      have HJ6 := hid (ho6.blk HJ4.out (by simp))
      have HO6 := hid (HO4.out.trans ho6)
      have hd2 := dg_size c
      have hf2s : f2.size = dg (bl c) := by rw [size_of_bl hf2, List.length_take, bl_length]; omega
      have hf2z : f2.size ≤ 140737488355328 := by omega
      have hcd : bl c = (bl s).drop (dg (bl s) + 1) := by rw [HCB.out, HR.out, List.drop_drop]
      have HCD := hid hcd
      have hhd : ((bl s).drop (dg (bl s))).head? = some 46 := by rw [← HR.out]; exact HDOT.out
      have HHD := hid hhd
      clear hf2 hr2 ho6 hcd hhd
      by_cases h2 : 0 < f2.size ∧ (f2.size : Int) ≤ 4
      · have hub : upB 4 f2 = true := by unfold upB; exact decide_eq_true h2
        have HU2 := hid (fun W => upTo_any 4 f2 W hf2z)
        rw [hub] at HU2
        have hdf : Dgs (bl f2) := by rw [HF2.out]; exact dg_pre _
        have hfl : (bl f2).length ≤ 4 := by rw [bl_length]; omega
        have hbd := num_bound hdf x
        have hx0 := HX0.out
        have hpw : 10 ^ (bl f2).length ≤ 10000 := Nat.pow_le_pow_right (by decide) hfl
        have hm : (x + 1) * 10 ^ (bl f2).length ≤ 1000000000000000 * 10000 := Nat.mul_le_mul (by omega) hpw
        have HV2 := hid (fun W => value_any x f2 W hf2z hdf (by omega))
        obtain ⟨y, hy⟩ : ∃ y, num x (bl f2) = y := ⟨_, rfl⟩
        rw [hy] at HV2
        obtain ⟨n2, hn2⟩ : ∃ n2, f2.size = n2 := ⟨_, rfl⟩
        have HN2 := hid hn2
        have hn4 : n2 ≤ 4 := by omega
        have HE : Hid (form (bl s) = some (y, n2, bl r2)) := by
          show _ = _; unfold form
          rw [if_neg HDG.out, if_pos HHD.out, ← HCD.out, if_neg (by omega), HXS.out, ← HF2.out, hy, ← HR2.out, ← hf2s, hn2]
        have HDF := hid hdf
        have d0 : w6.cell? ⟨b1, 0, none⟩ = some (.int .u64 x) := HK6.out.cell 0
        have d1 : w6.cell? ⟨b1, 1, none⟩ = some (.int .u64 1) := HK6.out.cell 1
        have g0 := fun i => HK6.out.froz i
        clear hub hdf hfl hbd hx0 hpw hm hy h2 hf2s hd2 hn2
        go_wp2_with fail
        refine (HU2.out _).mono ?_
        rintro e w7 ⟨rfl, rfl⟩
        go_wp2_with fail
        refine (HV2.out _).mono ?_
        rintro e w8 ⟨rfl, ho8⟩
        have HK8 := hid (ho8.blk HK6.out (by simp))
        have HJ8 := hid (ho8.blk HJ6.out (by simp))
        have HO8 := hid (HO6.out.trans ho8)
        have d0' : w8.cell? ⟨b1, 0, none⟩ = some (.int .u64 x) := HK8.out.cell 0
        have d1' : w8.cell? ⟨b1, 1, none⟩ = some (.int .u64 1) := HK8.out.cell 1
        have g0' := fun i => HK8.out.froz i
        clear ho8 d0 d1 g0
        go_wp2_with fail
        obtain ⟨W9, hW9⟩ : ∃ W9, (w8.setCell ⟨b1, 0, none⟩ (.int .u64 y)).iter f2 0 = W9 := ⟨_, rfl⟩
        have hbf : (w8.setCell ⟨b1, 0, none⟩ (.int .u64 y)).heap.size = w8.heap.size := by simp
        have HI : Hid (W9.heap[w8.heap.size]? = some (.stringIter f2 0)) := by
          rw [← hW9]
          have := World.iter_heap (w8.setCell ⟨b1, 0, none⟩ (.int .u64 y)) f2 0
          rwa [hbf] at this
        have HK9 : Hid (Blk W9 b1 [.int .u64 y, .int .u64 1] 37) := by rw [← hW9]; exact (HK8.out.set 0 (.int .u64 y)).alloc _
        have HJ9 : Hid (Blk W9 b0 [.int .u64 0, .int .u64 0] 37) := by rw [← hW9]; exact (HJ8.out.other _ _ (by have := HB1.out; simp; omega)).alloc _
        have HO9 : Hid (Only [] w W9) := by rw [← hW9]; exact (HO8.out.set (.inr HB1.out.2) _).alloc _
        have HB9 : Hid (b0 < w8.heap.size ∧ b1 < w8.heap.size ∧ w.heap.size ≤ w8.heap.size) := by
          have h1 := HK8.out.lt; have h2 := HB1.out; have h3 := HB0.out; show _ ∧ _; omega
        rw [hW9]
        obtain ⟨bf, hbf9⟩ : ∃ bf, w8.heap.size = bf := ⟨_, rfl⟩
        rw [hbf9] at HI HB9
        rw [hbf9]
        clear hW9 d0' d1' g0' hbf hbf9
        go_loopw [48] (fun _ wr => ∃ p : Nat, p ≤ n2 ∧ wr.heap[bf]? = some (.stringIter f2 p) ∧ Blk wr b1 [.int .u64 y, .int .u64 (10 ^ p : Nat)] 37 ∧ Blk wr b0 [.int .u64 0, .int .u64 0] 37 ∧ Only [] w wr) (fun _ wr => f2.size - wr.iterPos bf)
        case atStart => exact ⟨0, by omega, HI.out, HK9.out, HJ9.out, HO9.out⟩
        case round =>
          obtain ⟨p, hp, hit, hk, hj, ho⟩ := hrel
          have HO := hid ho
          obtain ⟨z, hz⟩ : ∃ z, 10 ^ p = z := ⟨_, rfl⟩
          rw [hz] at hk
          have hz1 : z ≤ 10000 := by
            rw [← hz]; exact Nat.pow_le_pow_right (i := p) (j := 4) (by decide) (by omega)
          have HZ := hid hz
          by_cases hlt : p < n2
          · have hlt' : p < f2.size := by rw [HN2.out]; exact hlt
            have hnx : ∀ ty, (Instr.next (.pointer (some ⟨bf, 0, none⟩)) true ty).run Tryd.prog wr = _ := fun ty => Lib.run_next_any_at wr bf f2 p ty hit hlt'
            have hit2 := Lib.iterAt_heap wr bf f2 p (p + (Utf8.decode f2 p).2) hit
            have HO2 := hid (Only.ofBelow (Lib.below_iterAt HO.out.below HB9.out.2.2 f2 (p + (Utf8.decode f2 p).2)))
            have hk2 : Blk (wr.iterAt bf f2 (p + (Utf8.decode f2 p).2)) b1 [.int .u64 y, .int .u64 z] 37 := (Lib.iterAt_other _ _ _ _ _ (by have := HB9.out; omega)).trans hk
            have hj2 : Blk (wr.iterAt bf f2 (p + (Utf8.decode f2 p).2)) b0 [.int .u64 0, .int .u64 0] 37 := (Lib.iterAt_other _ _ _ _ _ (by have := HB9.out; omega)).trans hj
            have hitp : wr.iterPos bf = p := by simp [World.iterPos, hit]
            have HIT := hid hitp
            obtain ⟨c2, hc2⟩ : ∃ c, (bl f2)[p]? = some c := ⟨_, List.getElem?_eq_getElem (by rw [bl_length]; exact hlt')⟩
            have hcd := HDF.out c2 (List.mem_of_getElem? hc2)
            have hdec := decode_dig f2 p c2 hc2 (by omega)
            rw [hdec] at hnx hit2 HO2 hk2 hj2
            simp only at hnx hit2 HO2 hk2 hj2
            have HK2 := hid hk2
            have HJ2 := hid hj2
            have HLT := hid hlt
            have hne : ¬ b1 = bf := by have := HB9.out; omega
            have HNE := hid hne
            have q1 : (wr.iterAt bf f2 (p + 1)).cell? ⟨b1, 1, none⟩ = some (.int .u64 z) := hk2.cell 1
            have q2 := fun i => hk2.froz i
            have hzi : (z : Int) ≤ 10000 := by omega
            have hz0 : (0 : Int) ≤ (z : Int) := by omega
            clear hdec hc2 hcd hk2 hj2 hitp hit hlt hlt' hp hk hj hz hz1 hne
            generalize wr.iterAt bf f2 (p + 1) = W2 at *
            go_wp2_with fail
            go_roundw
            case rel =>
              refine ⟨p + 1, HLT.out, ?_, ?_, HJ2.out.other _ _ (by have := HB1.out; simp; omega), HO2.out.set (.inr HB1.out.2) _⟩
              · exact (Below.heap_setCell _ _ _ _ (fun e => HNE.out e.symm)).trans hit2
              · have := HK2.out.set 1 (.int .u64 ((z : Int) * 10))
                rw [Nat.pow_succ, HZ.out]
                exact this
            case measure =>
              rw [HIT.out]
              have h3 : (W2.setCell ⟨b1, 1, none⟩ (.int .u64 ((z : Int) * 10))).heap[bf]? = some (.stringIter f2 (p + 1)) := (Below.heap_setCell _ _ _ _ (fun e => HNE.out e.symm)).trans hit2
              have h4 : f2.size = n2 := HN2.out
              have h5 := HLT.out
              simp only [World.iterPos, h3]
              omega
          · have hpe : p = n2 := by omega
            subst hpe
            have hnx : ∀ ty, (Instr.next (.pointer (some ⟨bf, 0, none⟩)) true ty).run Tryd.prog wr = _ := fun ty => Lib.run_next_end_at wr bf f2 p ty hit (by rw [HN2.out]; omega)
            have HKE := hid hk
            have HJE := hid hj
            have HZE : Hid (((z : Nat) : Int) = ((10 ^ p : Nat) : Int)) := by show _ = _; rw [HZ.out]
            have c0 : wr.cell? ⟨b0, 0, none⟩ = some (.int .u64 0) := hj.cell 0
            have c1 : wr.cell? ⟨b0, 1, none⟩ = some (.int .u64 0) := hj.cell 1
            have f0 := fun i => hj.froz i
            have d0 : wr.cell? ⟨b1, 0, none⟩ = some (.int .u64 y) := hk.cell 0
            have d1 : wr.cell? ⟨b1, 1, none⟩ = some (.int .u64 z) := hk.cell 1
            clear hit hk hj hz hz1 hlt hp
            go_wp2_with fail
            have k := (HJE.out.set 0 (.int .u64 y)).set 1 (.int .u64 z)
            have k0 := k.cell 0
            have k1 := k.cell 1
            simp only [List.set_cons_zero, List.set_cons_succ, List.getElem?_cons_zero, List.getElem?_cons_succ] at k0 k1
            refine bodyPost_ret (v := .tuple #[.agg #[.int .u64 y, .int .u64 z], .string r2, .bool true]) (by simp [results, Tryd.results16, go_sem, k0, k1]) rfl ⟨dec_some HE.out rfl ?_, ?_⟩
            · rw [← HZE.out]
            · exact (HO.out.set (.inr (Nat.le_of_eq HB0.out)) _).set (.inr (Nat.le_of_eq HB0.out)) _
      · have hub : upB 4 f2 = false := by unfold upB; exact decide_eq_false h2
        have HU2 := hid (fun W => upTo_any 4 f2 W hf2z)
        rw [hub] at HU2
        have HE : Hid (form (bl s) = none) := by
          show _ = _; unfold form
          rw [if_neg HDG.out, if_pos HHD.out, ← HCD.out, if_pos (by omega)]
        have c0 : w6.cell? ⟨b0, 0, none⟩ = some (.int .u64 0) := HJ6.out.cell 0
        have c1 : w6.cell? ⟨b0, 1, none⟩ = some (.int .u64 0) := HJ6.out.cell 1
        have f0 := fun i => HJ6.out.froz i
        clear h2 hf2s hub hd2
        go_wp2_with fail
        refine (HU2.out _).mono ?_
        rintro e w7 ⟨rfl, rfl⟩
        go_wp2_with fail
        have k := (HJ6.out.set 0 (.int .u64 0)).set 1 (.int .u64 0)
        have k0 := k.cell 0
        have k1 := k.cell 1
        simp only [List.set_cons_zero, List.set_cons_succ, List.getElem?_cons_zero, List.getElem?_cons_succ] at k0 k1
        refine bodyPost_ret (v := .tuple #[.agg #[.int .u64 0, .int .u64 0], .string { data := #[] }, .bool false]) (by simp [results, Tryd.results16, go_sem, k0, k1]) rfl ⟨dec_none HE.out rfl, ?_⟩
        exact (HO6.out.set (.inr (Nat.le_of_eq HB0.out)) _).set (.inr (Nat.le_of_eq HB0.out)) _
    · have HC := hid (cut_no hdot)
      have HE : Hid (form (bl s) = some (x, 0, bl r)) := by
        show _ = _; unfold form
        rw [if_neg HDG.out, if_neg (by rw [← HR.out]; exact hdot), HXS.out, HR.out]
      clear hdot
      go_wp2_with fail
      obtain ⟨W4, hW4⟩ : ∃ W4, w3.alloc (.cells #[.int .u64 x, .int .u64 1] 37) = W4 := ⟨_, rfl⟩
      obtain ⟨b1, hb1⟩ : ∃ b1, w3.heap.size = b1 := ⟨_, rfl⟩
      have HK4 : Hid (Blk W4 b1 [.int .u64 x, .int .u64 1] 37) := by rw [← hW4]; exact Blk.new _ _ _ hb1
      have HJ4 : Hid (Blk W4 b0 [.int .u64 0, .int .u64 0] 37) := by rw [← hW4]; exact HK3.out.alloc _
      have HO4 : Hid (Only [] w W4) := by rw [← hW4]; exact HO3.out.alloc _
      have HB1 : Hid (b0 < b1 ∧ w.heap.size ≤ b1) := by have := HK3.out.lt; have h := HB0.out; show _ ∧ _; omega
      rw [hW4, hb1]
      clear hW4 hb1
      refine (HC.out _).mono ?_
      rintro e w5 ⟨rfl, rfl⟩
      have c0 : w5.cell? ⟨b0, 0, none⟩ = some (.int .u64 0) := HJ4.out.cell 0
      have c1 : w5.cell? ⟨b0, 1, none⟩ = some (.int .u64 0) := HJ4.out.cell 1
      have f0 := fun i => HJ4.out.froz i
      have d0 : w5.cell? ⟨b1, 0, none⟩ = some (.int .u64 x) := HK4.out.cell 0
      have d1 : w5.cell? ⟨b1, 1, none⟩ = some (.int .u64 1) := HK4.out.cell 1
      go_wp2_with fail
      have k := (HJ4.out.set 0 (.int .u64 x)).set 1 (.int .u64 1)
      have k0 := k.cell 0
      have k1 := k.cell 1
      simp only [List.set_cons_zero, List.set_cons_succ, List.getElem?_cons_zero, List.getElem?_cons_succ] at k0 k1
      refine bodyPost_ret (v := .tuple #[.agg #[.int .u64 x, .int .u64 1], .string r, .bool true]) (by simp [results, Tryd.results16, go_sem, k0, k1]) rfl ⟨dec_some HE.out rfl rfl, ?_⟩
      exact (HO4.out.set (.inr (Nat.le_of_eq HB0.out)) _).set (.inr (Nat.le_of_eq HB0.out)) _
  · have hub : upB 15 f = false := by unfold upB; exact decide_eq_false h1
    have HU := hid (fun W => upTo_any 15 f W hfz)
    rw [hub] at HU
    have HE : Hid (form (bl s) = none) := by show _ = _; unfold form; rw [if_pos (by omega)]
    have c0 : w1.cell? ⟨b0, 0, none⟩ = some (.int .u64 0) := HK1.out.cell 0
    have c1 : w1.cell? ⟨b0, 1, none⟩ = some (.int .u64 0) := HK1.out.cell 1
    have f0 := fun i => HK1.out.froz i
    clear h1 hfs hrs hub
    go_wp2_with fail
    refine (HU.out _).mono ?_
    rintro e w2 ⟨rfl, rfl⟩
    go_wp2_with fail
    have k := (HK1.out.set 0 (.int .u64 0)).set 1 (.int .u64 0)
    have k0 := k.cell 0
    have k1 := k.cell 1
    simp only [List.set_cons_zero, List.set_cons_succ, List.getElem?_cons_zero, List.getElem?_cons_succ] at k0 k1
    refine bodyPost_ret (v := .tuple #[.agg #[.int .u64 0, .int .u64 0], .string { data := #[] }, .bool false]) (by simp [results, Tryd.results16, go_sem, k0, k1]) rfl ⟨dec_none HE.out rfl, ?_⟩
    exact (HO1.out.set (.inr (Nat.le_of_eq HB0.out)) _).set (.inr (Nat.le_of_eq HB0.out)) _
end Go.Proofs.YtapnmopcmlcfbaaDoor
