/- A font's name; a length as an attribute. -/
import Derived.Test.YtmlhibcbgdhadaaDoorNode
namespace Go.Proofs.YtmlhibcbgdhadaaDoor
open Go.RowKit

theorem nmB_ways (r : Nat) : r < 45 ∨ r = 45 ∨ (46 ≤ r ∧ r ≤ 47) ∨ (48 ≤ r ∧ r ≤ 57) ∨ (58 ≤ r ∧ r ≤ 64) ∨ (65 ≤ r ∧ r ≤ 90) ∨ (91 ≤ r ∧ r ≤ 94) ∨ r = 95 ∨ r = 96 ∨ (97 ≤ r ∧ r ≤ 122) ∨ 123 ≤ r := by omega
theorem nmB_yes {r : Nat} (h : r = 45 ∨ (48 ≤ r ∧ r ≤ 57) ∨ (65 ≤ r ∧ r ≤ 90) ∨ r = 95 ∨ (97 ≤ r ∧ r ≤ 122)) : nmB r = true := by unfold nmB; simp; omega
theorem nmB_no {r : Nat} (h : ¬ (r = 45 ∨ (48 ≤ r ∧ r ≤ 57) ∨ (65 ≤ r ∧ r ≤ 90) ∨ r = 95 ∨ (97 ≤ r ∧ r ≤ 122))) : nmB r = false := by unfold nmB; simp; omega
/-- what a byte of a name is decoded as, and any other -/
theorem dec_name (s : ByteArray) (p c : Nat) (hc : (bl s)[p]? = some c) : nmB c = nmB (Utf8.decode s p).1 ∧ (nmB c = true → (Utf8.decode s p).2 = 1) ∧ (Utf8.decode s p).1 ≤ 1114111 := by
  have hp : p < s.size := by have := (List.getElem?_eq_some_iff.1 hc).1; rwa [bl_length] at this
  by_cases h : c < 128
  · rw [U.decode_dig s p c hc h]; exact ⟨rfl, fun _ => rfl, by simp only; omega⟩
  · have hc' := hc
    rw [U.bl_gets s p hp] at hc
    have := U.dec_high (s.size - p) (s.get! p).toNat (s.get! (p + 1)).toNat (s.get! (p + 2)).toNat (s.get! (p + 3)).toNat (by rw [U.get_nat s p hp, Option.some.inj hc]; omega)
    rw [Lib.decode_at]
    have h1 : nmB c = false := nmB_no (by omega)
    have h2 := nmB_no (r := (Lib.decodeN (s.size - p) (s.get! p).toNat (s.get! (p + 1)).toNat (s.get! (p + 2)).toNat (s.get! (p + 3)).toNat).1) (by omega)
    rw [h1, h2]
    exact ⟨rfl, by simp, this.2⟩
theorem nam_no {s : ByteArray} {p c : Nat} (hc : (bl s)[p]? = some c) (h : nmB c = false) : nam s = false := by
  unfold nam
  rw [Bool.and_eq_false_iff]
  refine .inr ?_
  rw [List.all_eq_false]
  exact ⟨c, List.mem_of_getElem? hc, by rw [h]; decide⟩
theorem take_all {l : List Nat} {p c : Nat} {f : Nat → Bool} (h : (l.take p).all f = true) (hc : l[p]? = some c) (hf : f c = true) : (l.take (p + 1)).all f = true := by
  obtain ⟨hp, rfl⟩ := List.getElem?_eq_some_iff.1 hc
  rw [List.take_succ_eq_append_getElem hp, List.all_append, h]
  simp [hf]

set_option maxRecDepth 100000 in
set_option maxHeartbeats 8000000 in
theorem isName_any (s : ByteArray) (w : World) (hs : s.size ≤ 140737488355328) :
    Calls Tryd.prog 74 #[.string s] w fun e w' => e = .returned (.bool (nam s)) ∧ Only [] w w' := by
  by_cases h0 : s.size = 0
  · have hn : nam s = false := by unfold nam; simp [h0]
    have hs0 : s = ⟨#[]⟩ := U.size_zero h0
    subst hs0
    have HN := hid hn
    clear hn h0
    go_enter Tryd.func74, Tryd.ntmps74
    go_wp2
    go_ret
    exact ⟨ret_bool HN.out.symm, Only.refl _ _⟩
  · obtain ⟨t1, t2, t3, t4⟩ := U.nonempty_toList (s := s) (by omega)
    by_cases h32 : 32 < s.size
    · have hn : nam s = false := by unfold nam; simp; intro _ h; omega
      have HN := hid hn
      have h33 : (32 : Int) < (s.size : Int) := by omega
      clear hn
      go_enter Tryd.func74, Tryd.ntmps74
      go_wp2
      go_ret
      exact ⟨ret_bool HN.out.symm, Only.refl _ _⟩
    · have h33 : ¬ (32 : Int) < (s.size : Int) := by omega
      have H32 := hid h32
      have H0 := hid h0
      clear h32 h0
      go_enter Tryd.func74, Tryd.ntmps74
      go_wp2_with fail
      obtain ⟨W1, hW1⟩ : ∃ W1, w.iter s 0 = W1 := ⟨_, rfl⟩
      have HI : Hid (W1.heap[w.heap.size]? = some (.stringIter s 0)) := by
        rw [← hW1]; exact World.iter_heap w s 0
      have HB : Hid (Below w.heap.size w W1) := by rw [← hW1]; exact (Below.refl _ _).alloc (Nat.le_refl _) _
      rw [hW1]
      clear hW1
      obtain ⟨bf, hbf⟩ : ∃ bf, w.heap.size = bf := ⟨_, rfl⟩
      have HBF := hid hbf
      rw [hbf] at HI HB
      rw [hbf]
      clear hbf
      go_loopw [4] (fun i wr => ∃ (p : Nat) (v : Value), i = v ∧ p ≤ s.size ∧ wr.heap[bf]? = some (.stringIter s p) ∧ Below bf W1 wr ∧ Hid (((bl s).take p).all nmB = true)) (fun _ wr => s.size - wr.iterPos bf)
      case atStart => exact ⟨0, _, rfl, by omega, HI.out, Below.refl _ _, by simp [Hid]⟩
      case round =>
        obtain ⟨p, v, rfl, hp, hit, hbl, hall⟩ := hrel
        have HBL : Hid (Below bf W1 wr) := hbl
        clear hbl
        by_cases hlt : p < s.size
        · have hnx : ∀ ty, (Instr.next (.pointer (some ⟨bf, 0, none⟩)) true ty).run Tryd.prog wr = _ := fun ty => Lib.run_next_any_at wr bf s p ty hit hlt
          have hit2 := Lib.iterAt_heap wr bf s p (p + (Utf8.decode s p).2) hit
          have HB2 : Hid (Below bf W1 (wr.iterAt bf s (p + (Utf8.decode s p).2))) := Lib.below_iterAt HBL.out (Nat.le_refl _) s _
          have hitp : wr.iterPos bf = p := by simp [World.iterPos, hit]
          have HIT : Hid (wr.iterPos bf = p) := hitp
          clear hitp
          obtain ⟨c, hc⟩ : ∃ c, (bl s)[p]? = some c := ⟨_, List.getElem?_eq_getElem (by rw [bl_length]; exact hlt)⟩
          obtain ⟨d1, d2, d3⟩ := dec_name s p c hc
          have HC := hid hc
          obtain ⟨r, hr⟩ : ∃ r, (Utf8.decode s p).1 = r := ⟨_, rfl⟩
          obtain ⟨wd, hwd⟩ : ∃ wd, (Utf8.decode s p).2 = wd := ⟨_, rfl⟩
          rw [hr] at d1 d3
          rw [hwd] at d2
          rw [hr, hwd] at hnx
          rw [hwd] at hit2 HB2
          have HD1 := hid d1
          have HD2 := hid d2
          have HLT := hid hlt
          have hr0 : (0 : Int) ≤ (r : Int) := by omega
          have hr1 : (r : Int) ≤ 1114111 := by omega
          clear hc d1 d2 hr hwd hit hp hlt d3
          generalize wr.iterAt bf s (p + wd) = W2 at *
          have HF : Hid (nmB r = true → (wd = 1 ∧ nmB c = true)) := fun q => ⟨HD2.out (HD1.out.trans q), HD1.out.trans q⟩
          have HG : Hid (nmB r = false → nam s = false) := fun q => nam_no HC.out (HD1.out.trans q)
          rcases nmB_ways r with h | h | ⟨h, h'⟩ | ⟨h, h'⟩ | ⟨h, h'⟩ | ⟨h, h'⟩ | ⟨h, h'⟩ | h | h | ⟨h, h'⟩ | h
          · have e1 : ((r : Int) == 45) = false := by simp; omega
            have e2 : ((r : Int) == 95) = false := by simp; omega
            have f2 : (r : Int) ≤ 44 := by omega
            have HN := hid (HG.out (nmB_no (by omega)))
            go_wp2_with fail
            go_ret
            exact ⟨ret_bool HN.out.symm, Only.ofBelow (by rw [HBF.out]; exact HB.out.trans (HB2.out.mono (Nat.le_refl _)))⟩
          · have hrv : (r : Int) = 45 := by omega
            rw [hrv] at hnx
            clear hrv
            obtain ⟨q1, q2⟩ := HF.out (nmB_yes (by omega))
            rw [q1] at hit2
            have HTK := hid (take_all hall.out HC.out q2)
            clear q1 q2
            have HH := hid h
            clear h hr0 hr1
            go_wp2_with fail
            go_roundw
            case rel => exact ⟨p + 1, _, rfl, HLT.out, hit2, HB2.out, HTK.out⟩
            case measure =>
              rw [HIT.out]
              simp only [World.iterPos, hit2]
              have := HLT.out
              omega
          · have e1 : ((r : Int) == 45) = false := by simp; omega
            have e2 : ((r : Int) == 95) = false := by simp; omega
            have f1 : (46 : Int) ≤ (r : Int) := by omega
            have f2 : (r : Int) ≤ 47 := by omega
            have HN := hid (HG.out (nmB_no (by omega)))
            go_wp2_with fail
            go_ret
            exact ⟨ret_bool HN.out.symm, Only.ofBelow (by rw [HBF.out]; exact HB.out.trans (HB2.out.mono (Nat.le_refl _)))⟩
          · have e1 : ((r : Int) == 45) = false := by simp; omega
            have e2 : ((r : Int) == 95) = false := by simp; omega
            have f1 : (48 : Int) ≤ (r : Int) := by omega
            have f2 : (r : Int) ≤ 57 := by omega
            obtain ⟨q1, q2⟩ := HF.out (nmB_yes (by omega))
            rw [q1] at hit2
            have HTK := hid (take_all hall.out HC.out q2)
            clear q1 q2
            go_wp2_with fail
            go_roundw
            case rel => exact ⟨p + 1, _, rfl, HLT.out, hit2, HB2.out, HTK.out⟩
            case measure =>
              rw [HIT.out]
              simp only [World.iterPos, hit2]
              have := HLT.out
              omega
          · have e1 : ((r : Int) == 45) = false := by simp; omega
            have e2 : ((r : Int) == 95) = false := by simp; omega
            have f1 : (58 : Int) ≤ (r : Int) := by omega
            have f2 : (r : Int) ≤ 64 := by omega
            have HN := hid (HG.out (nmB_no (by omega)))
            go_wp2_with fail
            go_ret
            exact ⟨ret_bool HN.out.symm, Only.ofBelow (by rw [HBF.out]; exact HB.out.trans (HB2.out.mono (Nat.le_refl _)))⟩
          · have e1 : ((r : Int) == 45) = false := by simp; omega
            have e2 : ((r : Int) == 95) = false := by simp; omega
            have f1 : (65 : Int) ≤ (r : Int) := by omega
            have f2 : (r : Int) ≤ 90 := by omega
            obtain ⟨q1, q2⟩ := HF.out (nmB_yes (by omega))
            rw [q1] at hit2
            have HTK := hid (take_all hall.out HC.out q2)
            clear q1 q2
            go_wp2_with fail
            go_roundw
            case rel => exact ⟨p + 1, _, rfl, HLT.out, hit2, HB2.out, HTK.out⟩
            case measure =>
              rw [HIT.out]
              simp only [World.iterPos, hit2]
              have := HLT.out
              omega
          · have e1 : ((r : Int) == 45) = false := by simp; omega
            have e2 : ((r : Int) == 95) = false := by simp; omega
            have f1 : (91 : Int) ≤ (r : Int) := by omega
            have f2 : (r : Int) ≤ 94 := by omega
            have HN := hid (HG.out (nmB_no (by omega)))
            go_wp2_with fail
            go_ret
            exact ⟨ret_bool HN.out.symm, Only.ofBelow (by rw [HBF.out]; exact HB.out.trans (HB2.out.mono (Nat.le_refl _)))⟩
          · have hrv : (r : Int) = 95 := by omega
            rw [hrv] at hnx
            clear hrv
            obtain ⟨q1, q2⟩ := HF.out (nmB_yes (by omega))
            rw [q1] at hit2
            have HTK := hid (take_all hall.out HC.out q2)
            clear q1 q2
            have HH := hid h
            clear h hr0 hr1
            go_wp2_with fail
            go_roundw
            case rel => exact ⟨p + 1, _, rfl, HLT.out, hit2, HB2.out, HTK.out⟩
            case measure =>
              rw [HIT.out]
              simp only [World.iterPos, hit2]
              have := HLT.out
              omega
          · have hrv : (r : Int) = 96 := by omega
            rw [hrv] at hnx
            clear hrv
            have HN := hid (HG.out (nmB_no (by omega)))
            clear h hr0 hr1
            go_wp2_with fail
            go_ret
            exact ⟨ret_bool HN.out.symm, Only.ofBelow (by rw [HBF.out]; exact HB.out.trans (HB2.out.mono (Nat.le_refl _)))⟩
          · have e1 : ((r : Int) == 45) = false := by simp; omega
            have e2 : ((r : Int) == 95) = false := by simp; omega
            have f1 : (97 : Int) ≤ (r : Int) := by omega
            have f2 : (r : Int) ≤ 122 := by omega
            obtain ⟨q1, q2⟩ := HF.out (nmB_yes (by omega))
            rw [q1] at hit2
            have HTK := hid (take_all hall.out HC.out q2)
            clear q1 q2
            go_wp2_with fail
            go_roundw
            case rel => exact ⟨p + 1, _, rfl, HLT.out, hit2, HB2.out, HTK.out⟩
            case measure =>
              rw [HIT.out]
              simp only [World.iterPos, hit2]
              have := HLT.out
              omega
          · have e1 : ((r : Int) == 45) = false := by simp; omega
            have e2 : ((r : Int) == 95) = false := by simp; omega
            have f1 : (123 : Int) ≤ (r : Int) := by omega
            have HN := hid (HG.out (nmB_no (by omega)))
            go_wp2_with fail
            go_ret
            exact ⟨ret_bool HN.out.symm, Only.ofBelow (by rw [HBF.out]; exact HB.out.trans (HB2.out.mono (Nat.le_refl _)))⟩
        · have hnx : ∀ ty, (Instr.next (.pointer (some ⟨bf, 0, none⟩)) true ty).run Tryd.prog wr = _ := fun ty => Lib.run_next_end_at wr bf s p ty hit hlt
          have HE : Hid (nam s = true) := by
            show _ = _
            have hall2 := hall.out
            rw [List.take_of_length_le (by rw [bl_length]; omega)] at hall2
            unfold nam
            have a := H32.out
            have b := H0.out
            rw [hall2, decide_eq_true (by omega)]
            rfl
          clear hit hlt hp
          go_wp2_with fail
          go_ret
          exact ⟨ret_bool HE.out.symm, Only.ofBelow (by rw [HBF.out]; exact HB.out.trans (HBL.out.mono (Nat.le_refl _)))⟩

/-! ### a length as an attribute -/
def prT (n : Int) : ByteArray := if 0 ≤ n ∧ n ≤ 70368744177664 then U.prS n.toNat else ⟨#[]⟩
def pe (n : Int) : Int := if 0 ≤ n ∧ n ≤ 70368744177664 then 0 else 1
theorem prV_eq (n : Int) : U.prV n = .tuple #[.string (prT n), .int .i64 (pe n)] := by
  unfold U.prV prT pe
  split <;> rfl
def rt (n lo hi : Int) : Bool := decide (pe n = 0) && decide (lo ≤ n) && decide (n ≤ hi)
def attrV (bit : Int) (nm vl : ByteArray) (z r : Bool) : List Value := [.int .i64 bit, .string nm, .string vl, .bool z, .bool r]
theorem length_end {w w1 : World} {bit : Int} {nm vl : ByteArray} {z r : Bool} {T : Array Value} {v0 v1 v2 v3 v4 : Value} (ho : Only [] w w1) (hb : Blk w1 w.heap.size [v0, v1, v2, v3, v4] 84) (hT : T[10]? = some (.pointer (some ⟨w.heap.size, 0, none⟩)) := by rfl) :
    bodyPost Tryd.prog Tryd.f73 (fun e w' => e = .returned (.agg #[.int .i64 bit, .string nm, .string vl, .bool z, .bool r]) ∧ Only [] w w') .ret { tmps := T, defers := [] }
      (((((w1.setCell ⟨w.heap.size, 0, none⟩ (.int .i64 bit)).setCell ⟨w.heap.size, 1, none⟩ (.string nm)).setCell ⟨w.heap.size, 2, none⟩ (.string vl)).setCell ⟨w.heap.size, 3, none⟩ (.bool z)).setCell ⟨w.heap.size, 4, none⟩ (.bool r)) := by
  have hB := ((((hb.set 0 (.int .i64 bit)).set 1 (.string nm)).set 2 (.string vl)).set 3 (.bool z)).set 4 (.bool r)
  have hO : Only [] w (((((w1.setCell ⟨w.heap.size, 0, none⟩ (.int .i64 bit)).setCell ⟨w.heap.size, 1, none⟩ (.string nm)).setCell ⟨w.heap.size, 2, none⟩ (.string vl)).setCell ⟨w.heap.size, 3, none⟩ (.bool z)).setCell ⟨w.heap.size, 4, none⟩ (.bool r)) :=
    ((((ho.set (p := ⟨w.heap.size, 0, none⟩) (.inr (Nat.le_refl _)) _).set (p := ⟨w.heap.size, 1, none⟩) (.inr (Nat.le_refl _)) _).set (p := ⟨w.heap.size, 2, none⟩) (.inr (Nat.le_refl _)) _).set (p := ⟨w.heap.size, 3, none⟩) (.inr (Nat.le_refl _)) _).set (p := ⟨w.heap.size, 4, none⟩) (.inr (Nat.le_refl _)) _
  obtain ⟨W5, hW5⟩ : ∃ W5, (((((w1.setCell ⟨w.heap.size, 0, none⟩ (.int .i64 bit)).setCell ⟨w.heap.size, 1, none⟩ (.string nm)).setCell ⟨w.heap.size, 2, none⟩ (.string vl)).setCell ⟨w.heap.size, 3, none⟩ (.bool z)).setCell ⟨w.heap.size, 4, none⟩ (.bool r)) = W5 := ⟨_, rfl⟩
  rw [hW5] at hB hO ⊢
  have hc : ∀ i u, [Value.int .i64 bit, .string nm, .string vl, .bool z, .bool r][i]? = some u → W5.cell? ⟨w.heap.size, i, none⟩ = some u := fun i u hu => (hB.cell i).trans hu
  have c0 := hc 0 _ rfl
  have c1 := hc 1 _ rfl
  have c2 := hc 2 _ rfl
  have c3 := hc 3 _ rfl
  have c4 := hc 4 _ rfl
  exact bodyPost_ret (v := .agg #[.int .i64 bit, .string nm, .string vl, .bool z, .bool r]) (by simp [results, Tryd.results73, hT, go_sem, c0, c1, c2, c3, c4]) rfl ⟨rfl, hO⟩
set_option maxRecDepth 100000 in
set_option maxHeartbeats 8000000 in
theorem length_any (bit : Int) (nm : ByteArray) (n lo hi : Int) (w : World) (hT : Tt w) :
    Calls Tryd.prog 73 #[.int .i64 bit, .string nm, .int .i64 n, .int .i64 lo, .int .i64 hi] w fun e w' => e = .returned (.agg (attrV bit nm (prT n) (n == 0) (rt n lo hi)).toArray) ∧ Only [] w w' := by
  have HP := hid (fun W (h : Tt W) => U.print_any n W h)
  rw [prV_eq] at HP
  have HT := hid hT
  unfold attrV
  obtain ⟨vl, hvl⟩ : ∃ vl, prT n = vl := ⟨_, rfl⟩
  obtain ⟨e, he⟩ : ∃ e, pe n = e := ⟨_, rfl⟩
  rw [hvl, he] at HP
  rw [hvl]
  have ways : (rt n lo hi = true ∧ (e == 0) = true ∧ lo ≤ n ∧ n ≤ hi ∧ decide (n ≤ hi) = true) ∨ (rt n lo hi = false ∧ (e == 0) = false) ∨ (rt n lo hi = false ∧ (e == 0) = true ∧ ¬ lo ≤ n ∧ decide (lo ≤ n) = false) ∨ (rt n lo hi = false ∧ (e == 0) = true ∧ lo ≤ n ∧ ¬ n ≤ hi ∧ decide (n ≤ hi) = false) := by
    unfold rt
    rw [he]
    simp only [Bool.and_eq_true, Bool.and_eq_false_iff, decide_eq_true_eq, decide_eq_false_iff_not, beq_iff_eq, beq_eq_false_iff_ne]
    omega
  obtain ⟨rr, hrr⟩ : ∃ rr, rt n lo hi = rr := ⟨_, rfl⟩
  rw [hrr] at ways
  rw [hrr]
  clear hvl he hrr hT
  rcases ways with ⟨rfl, h1, h2, h3, h4⟩ | ⟨rfl, h1⟩ | ⟨rfl, h1, h2, h3⟩ | ⟨rfl, h1, h2, h3, h4⟩
  all_goals
    go_enter Tryd.func73, Tryd.ntmps73
    go_wp2_with fail
    refine (HP.out _ (HT.out.still ((Only.refl _ _).alloc _))).mono ?_
    rintro e w1 ⟨rfl, ho⟩
    have HO := hid ((Only.refl [] w).alloc _ |>.trans ho)
    have hb := ho.blk (Blk.new w _ 84 rfl) (by simp)
    have hc0 := hb.froz 0
    clear ho
    have hc : ∀ i u, [Value.int .i64 0, .string ⟨#[]⟩, .string ⟨#[]⟩, .bool false, .bool false][i]? = some u → w1.cell? ⟨w.heap.size, i, none⟩ = some u := fun i u hu => (hb.cell i).trans hu
    have c0 := hc 0 _ rfl
    have c1 := hc 1 _ rfl
    have c2 := hc 2 _ rfl
    have c3 := hc 3 _ rfl
    have c4 := hc 4 _ rfl
    have f1 := hb.froz 1
    have f2 := hb.froz 2
    have f3 := hb.froz 3
    have f4 := hb.froz 4
    clear hc
    go_wp2_with fail
  · exact length_end HO.out hb
  · exact length_end HO.out hb
  · exact length_end HO.out hb
  · exact length_end HO.out hb
end Go.Proofs.YtmlhibcbgdhadaaDoor
