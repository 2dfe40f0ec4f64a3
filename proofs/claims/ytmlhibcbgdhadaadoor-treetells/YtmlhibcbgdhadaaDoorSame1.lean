/- Same: the program's. -/
import Derived.Test.YtmlhibcbgdhadaaDoorNode
namespace Go.Proofs.YtmlhibcbgdhadaaDoor
open Go.RowKit

def runesB (a b : List (Int × Int × Int)) : Bool := decide (a.map (·.1) = b.map (·.1))
/-- the same but for places -/
def sameN (x y : Nd) : Bool := x.kind == y.kind && x.par == y.par && x.has == y.has && decide (x.font = y.font) && x.size == y.size && x.width == y.width && x.height == y.height && x.lead == y.lead && x.skip == y.skip && x.tol == y.tol && runesB x.chs y.chs
def sameL (a b : List Nd) : Bool := decide (a.length = b.length) && (List.range a.length).all fun i => sameN (nd a i) (nd b i)
theorem sameRune_any (a b : Int × Int × Int) (w : World) : Calls Tryd.prog 63 #[.agg (chI a).toArray, .agg (chI b).toArray] w fun e w' => e = .returned (.bool (a.1 == b.1)) ∧ Only [] w w' := by
  unfold chI
  go_enter Tryd.func63, Tryd.ntmps63
  go_wp2
  go_ret
  exact ⟨rfl, ((Only.refl _ _).alloc _).alloc _⟩
theorem SlB.char {W : World} {B : Nat} {ad : Option Addr} {ys : List (Int × Int × Int)} (h : SlB W B ad ys.length (ys.flatMap chI)) {i : Nat} {x : Int × Int × Int} (hi : ys[i]? = some x) :
    ∃ b off, ad = some ⟨b, off, none⟩ ∧ b < B ∧ b < W.heap.size ∧ W.cell? ⟨b, off + i * 3, none⟩ = some (.int .i64 x.1) ∧ W.cell? ⟨b, off + i * 3 + 1, none⟩ = some (.int .i64 x.2.1) ∧ W.cell? ⟨b, off + i * 3 + 2, none⟩ = some (.int .i64 x.2.2) := by
  have h0 : ys.length ≠ 0 := fun e => by
    rw [List.eq_nil_of_length_eq_zero e] at hi; simp at hi
  obtain ⟨b, off, e, hb, ha⟩ := h h0
  have f := fun c (hc : c < 3) => flat_get (enc := chI) chI_len hc hi
  exact ⟨b, off, e, hb, ha.1, ha.2 (i * 3) _ (f 0 (by decide)), ha.2 (i * 3 + 1) _ (f 1 (by decide)), ha.2 (i * 3 + 2) _ (f 2 (by decide))⟩
theorem cell_keep' {W W' : World} (o : Only [] W W') {b : Nat} (hb : b < W.heap.size) {i : Nat} {v : Value} (h : W.cell? ⟨b, i, none⟩ = some v) : W'.cell? ⟨b, i, none⟩ = some v :=
  (World.cell?_of_block (a := ⟨b, i, none⟩) (o.block b hb (by simp))).trans h
theorem runes_no {a b : List (Int × Int × Int)} {k : Nat} {x y : Int × Int × Int} (hx : a[k]? = some x) (hy : b[k]? = some y) (h : x.1 ≠ y.1) : runesB a b = false := by
  unfold runesB
  rw [decide_eq_false_iff_not]
  intro e
  have h1 : (a.map (·.1))[k]? = some x.1 := by rw [List.getElem?_map, hx]; rfl
  rw [e, List.getElem?_map, hy] at h1
  exact h (Option.some.inj h1).symm
theorem runes_yes {a b : List (Int × Int × Int)} (hl : a.length = b.length) (h : ∀ (k : Nat) (x y : Int × Int × Int), a[k]? = some x → b[k]? = some y → x.1 = y.1) : runesB a b = true := by
  unfold runesB
  rw [decide_eq_true_iff]
  apply List.ext_getElem?
  intro k
  rw [List.getElem?_map, List.getElem?_map]
  rcases Nat.lt_or_ge k a.length with g | g
  · have e1 := List.getElem?_eq_getElem g
    have e2 := List.getElem?_eq_getElem (show k < b.length by omega)
    rw [e1, e2]
    simp only [Option.map_some]
    rw [h k _ _ e1 e2]
  · rw [List.getElem?_eq_none g, List.getElem?_eq_none (by omega)]
theorem runes_len {a b : List (Int × Int × Int)} (h : a.length ≠ b.length) : runesB a b = false := by
  unfold runesB
  rw [decide_eq_false_iff_not]
  intro e
  have := congrArg List.length e
  simp at this
  exact h this
set_option maxRecDepth 100000 in
set_option maxHeartbeats 8000000 in
theorem equalChars_any {a b : List (Int × Int × Int)} {ad bd : Option Addr} {ac bc B : Nat} (w : World) (ha : SlB w B ad a.length (a.flatMap chI)) (hb : SlB w B bd b.length (b.flatMap chI)) (hla : a.length ≤ 4294967296) (hlb : b.length ≤ 4294967296) :
    Calls Tryd.prog 62 #[.slice ad a.length ac, .slice bd b.length bc, .func (.func 63) #[] #[]] w fun e w' => e = .returned (.bool (runesB a b)) ∧ Only [] w w' := by
  have HA := hid ha
  have HB := hid hb
  obtain ⟨n, hn⟩ : ∃ n, a.length = n := ⟨_, rfl⟩
  obtain ⟨m, hm⟩ : ∃ m, b.length = m := ⟨_, rfl⟩
  have HN := hid hn
  have HM := hid hm
  rw [hn] at hla ⊢
  rw [hm] at hlb ⊢
  clear ha hb
  by_cases hnm : n = m
  · subst hnm
    clear hn hm
    go_enter Tryd.func62, Tryd.ntmps62
    go_wp2_with fail
    go_loopw [17] (fun i wr => ∃ k : Nat, i = .int .i64 k ∧ k ≤ n ∧ Hid (∀ j x y, j < k → a[j]? = some x → b[j]? = some y → x.1 = y.1) ∧ Only [] w wr) (fun i _ => n - (RowKit.intOf i).toNat)
    case atStart => exact ⟨0, rfl, by omega, fun j _ _ h => by omega, Only.refl _ _⟩
    case round =>
      obtain ⟨k, rfl, hk, hall, ho⟩ := hrel
      by_cases hlt : k < n
      · obtain ⟨x, hx⟩ := some_at (xs := a) (i := k) (by rw [HN.out]; exact hlt)
        obtain ⟨y, hy⟩ := some_at (xs := b) (i := k) (by rw [HM.out]; exact hlt)
        obtain ⟨ab, ao, rfl, -, abw, a0, a1, a2⟩ := (HA.out.keep ho (by simp)).char hx
        obtain ⟨bb, bo, rfl, -, bbw, b0, b1, b2⟩ := (HB.out.keep ho (by simp)).char hy
        have p0 := fun o : Obj => (cell_past wr o bb _ bbw).trans b0
        have p1 := fun o : Obj => (cell_past wr o bb _ bbw).trans b1
        have p2 := fun o : Obj => (cell_past wr o bb _ bbw).trans b2
        have hkl : (k : Int) < (n : Int) := by omega
        have hk0 : (0 : Int) ≤ (k : Int) := by omega
        have HX := hid hx
        have HY := hid hy
        have HO := hid ho
        have HLT := hid hlt
        have HR := hid (fun W => sameRune_any x y W)
        unfold chI at HR
        clear hx hy ho hlt
        rcases hxy : (x.1 == y.1) with _ | _
        · have HF : Hid (runesB a b = false) := runes_no HX.out HY.out (by simpa using hxy)
          rw [hxy] at HR
          clear hxy
          go_wp2_with fail
          refine (HR.out _).mono ?_
          rintro e w1 ⟨rfl, o1⟩
          have HO1 := hid o1
          clear o1
          go_wp2_with fail
          go_ret
          exact ⟨ret_bool HF.out.symm, ((HO.out.alloc _).alloc _).trans HO1.out⟩
        · rw [hxy] at HR
          have HE : Hid (x.1 = y.1) := by show _ = _; simpa using hxy
          clear hxy
          go_wp2_with fail
          refine (HR.out _).mono ?_
          rintro e w1 ⟨rfl, o1⟩
          have HO1 := hid o1
          clear o1
          go_wp2_with fail
          go_roundw
          case rel =>
            refine ⟨k + 1, by go_num, HLT.out, fun j x' y' hj hx' hy' => ?_, ((HO.out.alloc _).alloc _).trans HO1.out⟩
            by_cases e : j = k
            · subst e
              have e1 := HX.out
              have e2 := HY.out
              rw [hx'] at e1
              rw [hy'] at e2
              cases e1; cases e2
              exact HE.out
            · exact hall.out j x' y' (by omega) hx' hy'
          case measure => have := HLT.out; simp [RowKit.intOf]; omega
      · have hkl : ¬ (k : Int) < (n : Int) := by omega
        have hkn : k = n := by omega
        subst hkn
        have HF : Hid (runesB a b = true) := runes_yes (by rw [HN.out, HM.out]) (fun j x y hx hy => hall.out j x y (by have := (List.getElem?_eq_some_iff.1 hx).1; rw [HN.out] at this; exact this) hx hy)
        have HO := hid ho
        clear ho
        go_wp2_with fail
        go_ret
        exact ⟨ret_bool HF.out.symm, HO.out⟩
  · have HF : Hid (runesB a b = false) := runes_len (by rw [HN.out, HM.out]; exact hnm)
    have e1 : ((n : Int) == (m : Int)) = false := by simp; omega
    have e2 : ((n : Int) != (m : Int)) = true := by simp; omega
    clear hnm hn hm
    go_enter Tryd.func62, Tryd.ntmps62
    go_wp2_with fail
    go_ret
    exact ⟨ret_bool HF.out.symm, Only.refl _ _⟩

theorem sameN_chs {x y : Nd} (hk : x.kind = y.kind) (h1 : x.par = y.par) (h2 : x.has = y.has) (h3 : x.font = y.font) (h4 : x.size = y.size) (h5 : x.width = y.width) (h6 : x.height = y.height) (h7 : x.lead = y.lead) (h8 : x.skip = y.skip) (h9 : x.tol = y.tol) : sameN x y = runesB x.chs y.chs := by
  unfold sameN
  rw [hk, h1, h2, h3, h4, h5, h6, h7, h8, h9]
  simp
theorem toList_ne {s u : ByteArray} (h : s ≠ u) : (u.toList == s.toList) = false := by
  refine beq_eq_false_iff_ne.2 (fun e => h ?_)
  rw [ByteArray.toList_eq, ByteArray.toList_eq] at e
  cases s; cases u; congr 1; exact (Array.ext' e).symm
theorem font_ne {s u : ByteArray} (h : s ≠ u) : (s.toList == u.toList) = false := toList_ne (fun e => h e.symm)
end Go.Proofs.YtmlhibcbgdhadaaDoor
