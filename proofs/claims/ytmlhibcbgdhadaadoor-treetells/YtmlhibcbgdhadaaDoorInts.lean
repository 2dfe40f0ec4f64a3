/- The law's comparison of rows of ints; the document of the examples. -/
import Derived.Test.YtmlhibcbgdhadaaDoorPath
import Derived.Test.YtmlhibcbgdhadaaDoorQuiet
namespace Go.Proofs.YtmlhibcbgdhadaaDoor
open Go.RowKit

def ivI (l : List Int) : List Value := l.map fun x => .int .i64 x
theorem ivI_get {l : List Int} {i : Nat} (h : i < l.length) : (ivI l)[i]? = some (.int .i64 l[i]) := by
  unfold ivI; rw [List.getElem?_map, List.getElem?_eq_getElem h]; rfl
theorem ivs_ivI (l : List Nat) : ivs l = ivI (l.map fun (k : Nat) => (k : Int)) := by unfold ivs ivI iv; rw [List.map_map]; rfl
set_option maxRecDepth 100000 in
set_option maxHeartbeats 4000000 in
theorem sameInts_any {a b : List Int} {ad bd : Option Addr} {ac bc : Nat} (w : World) (ha : Sl w ad a.length (ivI a)) (hb : Sl w bd b.length (ivI b)) (hla : a.length ≤ 4294967296) (hlb : b.length ≤ 4294967296) :
    Calls Tryd.prog 22 #[.slice ad a.length ac, .slice bd b.length bc] w fun e w' => e = .returned (.bool (decide (a = b))) ∧ Only [] w w' := by
  have HA := hid ha
  have HB := hid hb
  obtain ⟨n, hn⟩ : ∃ n, a.length = n := ⟨_, rfl⟩
  obtain ⟨m, hm⟩ : ∃ m, b.length = m := ⟨_, rfl⟩
  have HN := hid hn
  have HM := hid hm
  rw [hn] at hla ⊢
  rw [hm] at hlb ⊢
  clear ha hb
  by_cases hnm : n = m
  · subst hnm
    clear hn hm
    go_enter Tryd.func22, Tryd.ntmps22
    go_wp2_with fail
    go_loopw [5] (fun i wr => ∃ k : Nat, i = .int .i64 k ∧ k ≤ n ∧ Hid (∀ j, j < k → a[j]? = b[j]?) ∧ Only [] w wr) (fun i _ => n - (RowKit.intOf i).toNat)
    case atStart => exact ⟨0, rfl, by omega, fun j h => by omega, Only.refl _ _⟩
    case round =>
      obtain ⟨k, rfl, hk, hall, ho⟩ := hrel
      by_cases hlt : k < n
      · have hka : k < a.length := by rw [HN.out]; exact hlt
        have hkb : k < b.length := by rw [HM.out]; exact hlt
        obtain ⟨ab, ao, rfl, ha⟩ := (HA.out.only ho) (by omega)
        obtain ⟨bb, bo, rfl, hb⟩ := (HB.out.only ho) (by omega)
        have ca := ha.2 k _ (ivI_get hka)
        have cb := hb.2 k _ (ivI_get hkb)
        obtain ⟨x, hx⟩ : ∃ x, a[k] = x := ⟨_, rfl⟩
        obtain ⟨y, hy⟩ : ∃ y, b[k] = y := ⟨_, rfl⟩
        rw [hx] at ca
        rw [hy] at cb
        have HX : Hid (a[k]? = some x) := by show _ = _; rw [List.getElem?_eq_getElem hka, hx]
        have HY : Hid (b[k]? = some y) := by show _ = _; rw [List.getElem?_eq_getElem hkb, hy]
        have ga : ∀ d os, (behind wr d os).cell? ⟨ab, ao + k, none⟩ = some (.int .i64 x) := fun d os => (cell_behind ha.1 d os).trans ca
        have gb : ∀ d os, (behind wr d os).cell? ⟨bb, bo + k, none⟩ = some (.int .i64 y) := fun d os => (cell_behind hb.1 d os).trans cb
        have hkl : (k : Int) < (n : Int) := by omega
        have hk0 : (0 : Int) ≤ (k : Int) := by omega
        have HO := hid ho
        have HLT := hid hlt
        clear hx hy ho hlt ha hb hka hkb ca cb
        by_cases hxy : x = y
        · have e1 : (x == y) = true := by simpa using hxy
          have e2 : (x != y) = false := by simpa using hxy
          have HE := hid hxy
          clear hxy
          go_wp2_with fail
          refine wp_region_behind (by kernel_rfl) (by kernel_rfl) ?_
          repeat (go_big_quiet_step (fail))
          refine wpQuiet_nil ?_
          intro _ hw'
          obtain ⟨⟨dq, osq⟩, hw''⟩ := hw'
          subst hw''
          go_wp2_with fail
          go_roundw
          case rel =>
            refine ⟨k + 1, by go_num, HLT.out, fun j hj => ?_, HO.out.trans (only_behind _ _ _)⟩
            by_cases e : j = k
            · subst e; rw [HX.out, HY.out, HE.out]
            · exact hall.out j (by omega)
          case measure => have := HLT.out; simp [RowKit.intOf]; omega
        · have e1 : (x == y) = false := by simpa using hxy
          have e2 : (x != y) = true := by simpa using hxy
          have HF : Hid (decide (a = b) = false) := by
            show _ = _
            rw [decide_eq_false_iff_not]
            intro e
            subst e
            have h1 := HX.out
            rw [HY.out] at h1
            exact hxy (Option.some.inj h1).symm
          clear hxy
          go_wp2_with fail
          refine wp_region_behind (by kernel_rfl) (by kernel_rfl) ?_
          repeat (go_big_quiet_step (fail))
          refine wpQuiet_nil ?_
          intro _ hw'
          obtain ⟨⟨dq, osq⟩, hw''⟩ := hw'
          subst hw''
          go_wp2_with fail
          go_ret
          exact ⟨ret_bool HF.out.symm, HO.out.trans (only_behind _ _ _)⟩
      · have hkl : ¬ (k : Int) < (n : Int) := by omega
        have hkn : k = n := by omega
        subst hkn
        have HF : Hid (decide (a = b) = true) := by
          show _ = _
          rw [decide_eq_true_iff]
          apply List.ext_getElem?
          intro j
          rcases Nat.lt_or_ge j k with g | g
          · exact hall.out j g
          · rw [List.getElem?_eq_none (by rw [HN.out]; exact g), List.getElem?_eq_none (by rw [HM.out]; exact g)]
        have HO := hid ho
        clear ho
        go_wp2_with fail
        go_ret
        exact ⟨ret_bool HF.out.symm, HO.out⟩
  · have HF : Hid (decide (a = b) = false) := by
      show _ = _
      rw [decide_eq_false_iff_not]
      intro e
      subst e
      exact hnm (HN.out.symm.trans HM.out)
    have e1 : ((n : Int) == (m : Int)) = false := by simp; omega
    have e2 : ((n : Int) != (m : Int)) = true := by simp; omega
    clear hnm hn hm
    go_enter Tryd.func22, Tryd.ntmps22
    go_wp2_with fail
    go_ret
    exact ⟨ret_bool HF.out.symm, Only.refl _ _⟩

/-! ### the document of the examples -/
def plainX (h : Nat) : List (Nd × Value) := [
  (⟨1, -1, 0, 0, 13, { data := #[70] }, 0, 6553600, 3276800, 0, 0, 0, []⟩, .slice none 0 0),
  (⟨2, 0, 0, 0, 0, { data := #[] }, 0, 0, 0, 0, 0, 0, []⟩, .slice none 0 0),
  (⟨4, 1, 0, 0, 0, { data := #[] }, 0, 0, 0, 0, 0, 0, [(97, 0, 0), (60, 0, 0)]⟩, .slice (some ⟨h + 1, 0, none⟩) 2 2),
  (⟨3, 1, 0, 0, 2, { data := #[] }, 786432, 0, 0, 0, 0, 0, []⟩, .slice none 0 0),
  (⟨4, 3, 0, 0, 0, { data := #[] }, 0, 0, 0, 0, 0, 0, [(98, 0, 0)]⟩, .slice (some ⟨h + 1 + 1, 0, none⟩) 1 1),
  (⟨5, 1, 0, 0, 0, { data := #[] }, 0, 0, 0, 0, 0, 0, []⟩, .slice none 0 0)]
theorem Blk.at_ {W : World} {b : Nat} {xs : List Value} {t : TypeId} (h : Blk W b xs t) : At W b 0 xs := ⟨h.lt, fun j u hj => by rw [Nat.zero_add, h.cell]; exact hj⟩
theorem plain_nl {W : World} {h : Nat} (b1 : Blk W (h + 1) [.int .i64 97, .int .i64 0, .int .i64 0, .int .i64 60, .int .i64 0, .int .i64 0] 44) (b2 : Blk W (h + 1 + 1) [.int .i64 98, .int .i64 0, .int .i64 0] 44) (b3 : Blk W (h + 3) ((plainX h).flatMap ndc) 42) :
    NL W W.heap.size (some ⟨h + 3, 0, none⟩) (plainX h) := by
  refine ⟨fun _ => ⟨h + 3, 0, rfl, b3.lt, b3.at_⟩, fun x hx => ?_⟩
  simp only [plainX, List.mem_cons, List.not_mem_nil, or_false] at hx
  rcases hx with rfl | rfl | rfl | rfl | rfl | rfl
  · exact ⟨none, 0, rfl, fun h => absurd rfl h⟩
  · exact ⟨none, 0, rfl, fun h => absurd rfl h⟩
  · exact ⟨some ⟨h + 1, 0, none⟩, 2, rfl, fun _ => ⟨h + 1, 0, rfl, b1.lt, b1.at_⟩⟩
  · exact ⟨none, 0, rfl, fun h => absurd rfl h⟩
  · exact ⟨some ⟨h + 1 + 1, 0, none⟩, 1, rfl, fun _ => ⟨h + 1 + 1, 0, rfl, b2.lt, b2.at_⟩⟩
  · exact ⟨none, 0, rfl, fun h => absurd rfl h⟩
set_option maxRecDepth 100000 in
set_option maxHeartbeats 4000000 in
theorem plain_any (w : World) : Calls Tryd.prog 26 #[] w fun e w' => e = .returned (.slice (some ⟨w.heap.size + 3, 0, none⟩) 6 6) ∧ Only [] w w' ∧ Blk w' (w.heap.size + 3) ((plainX w.heap.size).flatMap ndc) 42 ∧ NL w' w'.heap.size (some ⟨w.heap.size + 3, 0, none⟩) (plainX w.heap.size) := by
  go_enter Tryd.func26, Tryd.ntmps26
  go_wp2
  go_ret
  have b1 := ((Blk.new (w.alloc (.cells (ndc ((plainX w.heap.size).headD (nd0, .slice none 0 0))).toArray 42)) #[.int .i64 97, .int .i64 0, .int .i64 0, .int .i64 60, .int .i64 0, .int .i64 0] 44 (k := w.heap.size + 1) (by simp)).alloc (.cells #[.int .i64 98, .int .i64 0, .int .i64 0] 44)).alloc (.cells ((plainX w.heap.size).flatMap ndc).toArray 42)
  have b2 := (Blk.new ((w.alloc (.cells (ndc ((plainX w.heap.size).headD (nd0, .slice none 0 0))).toArray 42)).alloc (.cells #[.int .i64 97, .int .i64 0, .int .i64 0, .int .i64 60, .int .i64 0, .int .i64 0] 44)) #[.int .i64 98, .int .i64 0, .int .i64 0] 44 (k := w.heap.size + 1 + 1) (by simp)).alloc (.cells ((plainX w.heap.size).flatMap ndc).toArray 42)
  have b3 := Blk.new (((w.alloc (.cells (ndc ((plainX w.heap.size).headD (nd0, .slice none 0 0))).toArray 42)).alloc (.cells #[.int .i64 97, .int .i64 0, .int .i64 0, .int .i64 60, .int .i64 0, .int .i64 0] 44)).alloc (.cells #[.int .i64 98, .int .i64 0, .int .i64 0] 44)) ((plainX w.heap.size).flatMap ndc).toArray 42 (k := w.heap.size + 3) (by simp)
  exact ⟨rfl, (((Only.refl [] w).alloc _).alloc _).alloc _ |>.alloc _, b3, plain_nl b1 b2 b3⟩
end Go.Proofs.YtmlhibcbgdhadaaDoor
