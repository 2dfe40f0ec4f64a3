/- A node's attributes: a region that draws its order. -/
import Derived.Test.YtmlhibcbgdhadaaDoorAttr
import Derived.Test.YtmlhibcbgdhadaaDoorDraws
namespace Go.Proofs.YtmlhibcbgdhadaaDoor
open Go.RowKit

def tolS (n : Int) : ByteArray := ⟨(Lib.itoa n).toArray⟩
def tolB (n : Int) : Bool := decide (0 ≤ n ∧ n ≤ 10000)
theorem itoa_any (n : Int) (w : World) (h : I64 n) (hT : Tt w) : Calls Tryd.prog 75 #[.int .i64 n] w fun e w' => e = .returned (.string (tolS n)) ∧ Only [] w w' := by
  refine (Tryd.strconv_Itoa n h.1 h.2 w hT.tab).mono ?_
  rintro e w' ⟨rfl, k, os, rfl⟩
  exact ⟨rfl, U.only_grow0 _ _ _⟩
/-- a node's attributes, in the order in which they are written -/
def attsC (x : Nd) : List Value :=
  attrV 4 { data := #[119, 105, 100, 116, 104] } (prT x.width) (x.width == 0) (rt x.width 1 536870912) ++ attrV 8 { data := #[104, 101, 105, 103, 104, 116] } (prT x.height) (x.height == 0) (rt x.height 1 536870912) ++
  attrV 1 { data := #[102, 111, 110, 116] } x.font (decide (x.font.size = 0)) (nam x.font) ++ attrV 2 { data := #[115, 105, 122, 101] } (prT x.size) (x.size == 0) (rt x.size 1 67108864) ++
  attrV 16 { data := #[108, 101, 97, 100] } (prT x.lead) (x.lead == 0) (rt x.lead 0 536870912) ++ attrV 32 { data := #[115, 107, 105, 112] } (prT x.skip) (x.skip == 0) (rt x.skip 0 536870912) ++
  attrV 64 { data := #[116, 111, 108] } (tolS x.tol) (x.tol == 0) (tolB x.tol)
def attsC0 : List Value := [.int .i64 0, .string { data := #[] }, .string { data := #[] }, .bool false, .bool false, .int .i64 0, .string { data := #[] }, .string { data := #[] }, .bool false, .bool false, .int .i64 0, .string { data := #[] }, .string { data := #[] }, .bool false, .bool false, .int .i64 0, .string { data := #[] }, .string { data := #[] }, .bool false, .bool false, .int .i64 0, .string { data := #[] }, .string { data := #[] }, .bool false, .bool false, .int .i64 0, .string { data := #[] }, .string { data := #[] }, .bool false, .bool false, .int .i64 0, .string { data := #[] }, .string { data := #[] }, .bool false, .bool false]
/-- the memory while they are gathered -/
structure AR (w : World) (x : Nd × Value) (b : Bool) (W : World) : Prop where
  bx : Blk W w.heap.size (ndc x) 42
  br : Blk W (w.heap.size + 1) (if b then attsC x.1 else attsC0) 85
  tt : Tt W
  on : Only [] w W
  sz : 5 ≤ w.heap.size
theorem AR.still {w W W' : World} {x : Nd × Value} {b : Bool} (h : AR w x b W) (k : Only [] W W') : AR w x b W' := ⟨k.blk h.bx (by simp), k.blk h.br (by simp), h.tt.still k, h.on.trans k, h.sz⟩
theorem AR.new (w : World) (x : Nd × Value) (hT : Tt w) : AR w x false ((w.alloc (.cells (ndc x).toArray 42)).alloc (.cells (attsC0).toArray 85)).drew := by
  have o : Only [] w ((w.alloc (.cells (ndc x).toArray 42)).alloc (.cells (attsC0).toArray 85)) := ((Only.refl [] w).alloc _).alloc _
  exact ⟨((Blk.new w (ndc x).toArray 42 rfl).alloc _).drew, (Blk.new _ (attsC0).toArray 85 (by simp)).drew, (hT.still o).still ((Only.refl _ _).drew), o.drew, hT.tc.sz⟩
theorem AR.cells {w W : World} {x : Nd × Value} {b : Bool} (h : AR w x b W) : W.cell? ⟨w.heap.size, 5, none⟩ = some (.string x.1.font) ∧ W.cell? ⟨w.heap.size, 6, none⟩ = some (.int .i64 x.1.size) ∧ W.cell? ⟨w.heap.size, 7, none⟩ = some (.int .i64 x.1.width) ∧ W.cell? ⟨w.heap.size, 8, none⟩ = some (.int .i64 x.1.height) ∧ W.cell? ⟨w.heap.size, 9, none⟩ = some (.int .i64 x.1.lead) ∧ W.cell? ⟨w.heap.size, 10, none⟩ = some (.int .i64 x.1.skip) ∧ W.cell? ⟨w.heap.size, 11, none⟩ = some (.int .i64 x.1.tol) :=
  ⟨h.bx.cell 5, h.bx.cell 6, h.bx.cell 7, h.bx.cell 8, h.bx.cell 9, h.bx.cell 10, h.bx.cell 11⟩
theorem eql_empty {a : Act} {w : World} {o : Oper} {y : Operand} {s : ByteArray} (hop : o.op = .binOp .eql 9 y (.const (.string ⟨#[]⟩)) 9) (hx : a.eval y = .string s) : (execOp a.eval o).run Tryd.prog w = .ok (.value (.bool (decide (s.size = 0)))) w := by
  have h1 : a.eval (.const (.string ⟨#[]⟩)) = .string ⟨#[]⟩ := rfl
  by_cases h : s.size = 0
  · have := U.size_zero h
    subst this
    simp only [execOp, hop, hx, h1]
    go_simp
  · obtain ⟨t1, t2, t3, t4⟩ := U.nonempty_toList (s := s) (by omega)
    simp only [execOp, hop, hx, h1]
    rw [decide_eq_false h]
    go_simp
theorem attsC_len (x : Nd) : (attsC x).length = 35 := rfl
/-- cells written over from place o on -/
def setL (xs : List Value) : Nat → List Value → List Value
  | _, [] => xs
  | o, v :: vs => setL (xs.set o v) (o + 1) vs
theorem Blk.setCells {b : Nat} {t : TypeId} : ∀ (vs : List Value) (o : Nat) (w : World) (xs : List Value), Blk w b xs t → Blk (w.setCells b o vs) b (setL xs o vs) t
  | [], _, _, _, h => h
  | v :: vs, o, _, _, h => Blk.setCells vs (o + 1) _ _ (h.set o v)
theorem setL_eq : ∀ (vs pre xs : List Value), xs.length = vs.length → setL (pre ++ xs) pre.length vs = pre ++ vs
  | [], pre, xs, h => by
    have : xs = [] := List.eq_nil_of_length_eq_zero h
    subst this; rfl
  | v :: vs, pre, xs, h => by
    obtain ⟨x, xs', rfl⟩ := List.exists_cons_of_length_eq_add_one (n := vs.length) h
    have h2 := setL_eq vs (pre ++ [v]) xs' (by simpa using h)
    show setL ((pre ++ x :: xs').set pre.length v) (pre.length + 1) vs = _
    rw [List.set_append_right _ _ (Nat.le_refl _), Nat.sub_self]
    simp only [List.set_cons_zero]
    rw [List.length_append, List.append_assoc, List.append_assoc] at h2
    exact h2
theorem setL_all {vs xs : List Value} (h : xs.length = vs.length) : setL xs 0 vs = vs := setL_eq vs [] xs h
theorem Only.setCells {L : List Nat} {a : World} {b : Nat} (hb : b ∈ L ∨ a.heap.size ≤ b) : ∀ (vs : List Value) (o : Nat) (w : World), Only L a w → Only L a (w.setCells b o vs)
  | [], _, _, h => h
  | v :: vs, o, _, h => Only.setCells hb vs (o + 1) _ (h.set (p := ⟨b, o, none⟩) hb v)
theorem Blk.range {w : World} {b : Nat} {xs : List Value} {t : TypeId} (h : Blk w b xs t) : w.rangeAt b 0 xs := fun j v hj => by rw [Nat.zero_add, h.cell]; exact hj
theorem Blk.there {w : World} {b : Nat} {xs : List Value} {t : TypeId} (h : Blk w b xs t) : w.there b 0 xs.length := fun j hj => by
  rw [Nat.zero_add, h.cell, List.getElem?_eq_getElem hj]; exact ⟨rfl, h.froz j⟩
theorem under85 : ∃ d, Tryd.prog.underlying 85 = some d ∧ d.isRow = true := ⟨_, Tryd.underlying85, rfl⟩
theorem info85 : (Tryd.prog.info? 85).map (·.size) = some 35 := by kernel_rfl
theorem attsC_one (x : Nd) : ∀ v ∈ attsC x, v.oneCell' = true := by
  intro v hv
  unfold attsC attrV at hv
  simp only [List.cons_append, List.nil_append, List.mem_cons, List.not_mem_nil, or_false] at hv
  rcases hv with rfl | rfl | rfl | rfl | rfl | rfl | rfl | rfl | rfl | rfl | rfl | rfl | rfl | rfl | rfl | rfl | rfl | rfl | rfl | rfl | rfl | rfl | rfl | rfl | rfl | rfl | rfl | rfl | rfl | rfl | rfl | rfl | rfl | rfl | rfl
  all_goals rfl
theorem atts_end {w W : World} {x : Nd × Value} (h : AR w x true W) (T : Array Value) (hT : T[2]? = some (.pointer (some ⟨w.heap.size + 1, 0, none⟩))) :
    bodyPost Tryd.prog Tryd.f66 (fun e w' => e = .returned (.agg (attsC x.1).toArray) ∧ Only [] w w') .ret { tmps := T, defers := [] } W := by
  obtain ⟨d, hu, hd⟩ := under85
  have hb : Blk W (w.heap.size + 1) (attsC x.1) 85 := h.br
  have hl := run_loadVar_mid (P := Tryd.prog) W (w.heap.size + 1) 0 85 (attsC x.1) d hb.range hu hd (by rw [info85, attsC_len])
  exact bodyPost_ret (v := .agg (attsC x.1).toArray) (by simp [results, Tryd.results66, hT, asAddr, hl]) rfl ⟨rfl, h.on⟩
theorem wp_store {w W : World} {x : Nd × Value} {o : Oper} {a : Act} {y z : Operand} {K : Act → World → Prop} {Q : Exit → Act → World → Prop} (h : AR w x false W) (hop : o.op = .store 85 y z) (hy : a.eval y = .pointer (some ⟨w.heap.size + 1, 0, none⟩)) (hz : a.eval z = .agg (attsC x.1).toArray)
    (hk : ∀ W', AR w x true W' → K (a.put o.dst undef) W') : o.wp Tryd.prog a W K Q := by
  have hb : Blk W (w.heap.size + 1) attsC0 85 := h.br
  have hs : Only [w.heap.size + 1] W (W.setCells (w.heap.size + 1) 0 (attsC x.1)) := Only.setCells (.inl (by simp)) _ 0 W (Only.refl _ W)
  refine wp_store_mid 85 y z hop (w.heap.size + 1) 0 (attsC x.1).toArray hy hz ?_ ?_ ?_ (hk _ ⟨hs.blk h.bx (by simp), ?_, h.tt.only hs (fun i hi => ?_), ?_, h.sz⟩)
  · have := hb.there; exact this
  · rw [info85]; rfl
  · exact all_oneCell_toArray (attsC_one x.1)
  · have := hb.setCells (attsC x.1) 0
    rw [setL_all (by rfl)] at this
    exact this
  · simp at hi; have := h.sz; omega
  · exact Only.setCells (.inr (by omega)) _ 0 W h.on
set_option maxRecDepth 100000 in
set_option maxHeartbeats 8000000 in
theorem atts_pos (x : Nd × Value) (hf : Fit x.1) (w : World) (hT : Tt w) (h0 : 0 ≤ x.1.tol) :
    Calls Tryd.prog 66 #[.agg (ndc x).toArray] w fun e w' => e = .returned (.agg (attsC x.1).toArray) ∧ Only [] w w' := by
  have hB : (tolB x.1.tol) = decide (x.1.tol ≤ 10000) := by unfold tolB; simp; omega
  go_enter Tryd.func66, Tryd.ntmps66
  go_wp2_with fail
  refine region_vals (W := (w.alloc (.cells (ndc x).toArray 42)).alloc (.cells attsC0.toArray 85)) (val := fun i => [.pointer (some ⟨w.heap.size, 7, none⟩), .int .i64 x.1.width, .agg (attrV 4 { data := #[119, 105, 100, 116, 104] } (prT x.1.width) (x.1.width == 0) (rt x.1.width 1 536870912)).toArray, .pointer (some ⟨w.heap.size, 8, none⟩), .int .i64 x.1.height, .agg (attrV 8 { data := #[104, 101, 105, 103, 104, 116] } (prT x.1.height) (x.1.height == 0) (rt x.1.height 1 536870912)).toArray, .pointer (some ⟨w.heap.size, 5, none⟩), .string x.1.font, .pointer (some ⟨w.heap.size, 5, none⟩), .string x.1.font, .bool (decide (x.1.font.size = 0)), .pointer (some ⟨w.heap.size, 5, none⟩), .string x.1.font, .bool (nam x.1.font), .agg (attrV 1 { data := #[102, 111, 110, 116] } x.1.font (decide (x.1.font.size = 0)) (nam x.1.font)).toArray, .pointer (some ⟨w.heap.size, 6, none⟩), .int .i64 x.1.size, .agg (attrV 2 { data := #[115, 105, 122, 101] } (prT x.1.size) (x.1.size == 0) (rt x.1.size 1 67108864)).toArray, .pointer (some ⟨w.heap.size, 9, none⟩), .int .i64 x.1.lead, .agg (attrV 16 { data := #[108, 101, 97, 100] } (prT x.1.lead) (x.1.lead == 0) (rt x.1.lead 0 536870912)).toArray, .pointer (some ⟨w.heap.size, 10, none⟩), .int .i64 x.1.skip, .agg (attrV 32 { data := #[115, 107, 105, 112] } (prT x.1.skip) (x.1.skip == 0) (rt x.1.skip 0 536870912)).toArray, .pointer (some ⟨w.heap.size, 11, none⟩), .int .i64 x.1.tol, .string (tolS x.1.tol), .pointer (some ⟨w.heap.size, 11, none⟩), .int .i64 x.1.tol, .bool (x.1.tol == 0), .pointer (some ⟨w.heap.size, 11, none⟩), .int .i64 x.1.tol, .bool true, .bool true, .pointer (some ⟨w.heap.size, 11, none⟩), .int .i64 x.1.tol, .bool (decide (x.1.tol ≤ 10000)), .bool (decide (x.1.tol ≤ 10000)), .agg (attrV 64 { data := #[116, 111, 108] } (tolS x.1.tol) (x.1.tol == 0) (tolB x.1.tol)).toArray, .agg (attsC x.1).toArray, undef].getD i undef) (AR w x) 40 (by kernel_rfl) (by kernel_rfl) (by kernel_rfl) (AR.new w x hT) (by kernel_rfl) ?_ [3, 4, 5, 6, 7, 8, 9, 10, 11, 12, 13, 14, 15, 16, 17, 18, 19, 20, 21, 22, 23, 24, 25, 26, 27, 28, 29, 30, 31, 32, 33, 34, 35, 36, 37, 38, 39, 40, 41, 42] (by kernel_rfl) ?_
  · intro i o ho b a W hW hr hh hl K hK
    rcases i with _ | _ | _ | _ | _ | _ | _ | _ | _ | _ | _ | _ | _ | _ | _ | _ | _ | _ | _ | _ | _ | _ | _ | _ | _ | _ | _ | _ | _ | _ | _ | _ | _ | _ | _ | _ | _ | _ | _ | _ | _ | i
    · cases ho
      have e1 : a.tmps[1]? = some (.pointer (some ⟨w.heap.size, 0, none⟩)) := hr.2.2 1 (by kernel_rfl)
      have hcell := hW.cells
      exact wpOp_one rfl rfl (wp_val (w' := W) (by go_simp) (hK _ (by simpa using hW)))
    · cases ho
      have e3 : a.tmps[3]? = some (.pointer (some ⟨w.heap.size, 7, none⟩)) := (hh 0 (by kernel_rfl)) 3 rfl
      have hcell := hW.cells
      exact wpOp_one rfl rfl (wp_val (w' := W) (by go_simp) (hK _ (by simpa using hW)))
    · cases ho
      have e4 : a.tmps[4]? = some (.int .i64 x.1.width) := (hh 1 (by kernel_rfl)) 4 rfl
      refine wpOp_one rfl rfl (wp_enter (w' := W) (by go_simp) ((length_any 4 { data := #[119, 105, 100, 116, 104] } x.1.width 1 536870912 _ hW.tt).mono ?_))
      rintro e w' ⟨rfl, ho⟩
      exact ⟨_, rfl, hK _ (by simpa using hW.still ho)⟩
    · cases ho
      have e1 : a.tmps[1]? = some (.pointer (some ⟨w.heap.size, 0, none⟩)) := hr.2.2 1 (by kernel_rfl)
      have hcell := hW.cells
      exact wpOp_one rfl rfl (wp_val (w' := W) (by go_simp) (hK _ (by simpa using hW)))
    · cases ho
      have e6 : a.tmps[6]? = some (.pointer (some ⟨w.heap.size, 8, none⟩)) := (hh 3 (by kernel_rfl)) 6 rfl
      have hcell := hW.cells
      exact wpOp_one rfl rfl (wp_val (w' := W) (by go_simp) (hK _ (by simpa using hW)))
    · cases ho
      have e7 : a.tmps[7]? = some (.int .i64 x.1.height) := (hh 4 (by kernel_rfl)) 7 rfl
      refine wpOp_one rfl rfl (wp_enter (w' := W) (by go_simp) ((length_any 8 { data := #[104, 101, 105, 103, 104, 116] } x.1.height 1 536870912 _ hW.tt).mono ?_))
      rintro e w' ⟨rfl, ho⟩
      exact ⟨_, rfl, hK _ (by simpa using hW.still ho)⟩
    · cases ho
      have e1 : a.tmps[1]? = some (.pointer (some ⟨w.heap.size, 0, none⟩)) := hr.2.2 1 (by kernel_rfl)
      have hcell := hW.cells
      exact wpOp_one rfl rfl (wp_val (w' := W) (by go_simp) (hK _ (by simpa using hW)))
    · cases ho
      have e9 : a.tmps[9]? = some (.pointer (some ⟨w.heap.size, 5, none⟩)) := (hh 6 (by kernel_rfl)) 9 rfl
      have hcell := hW.cells
      exact wpOp_one rfl rfl (wp_val (w' := W) (by go_simp) (hK _ (by simpa using hW)))
    · cases ho
      have e1 : a.tmps[1]? = some (.pointer (some ⟨w.heap.size, 0, none⟩)) := hr.2.2 1 (by kernel_rfl)
      have hcell := hW.cells
      exact wpOp_one rfl rfl (wp_val (w' := W) (by go_simp) (hK _ (by simpa using hW)))
    · cases ho
      have e11 : a.tmps[11]? = some (.pointer (some ⟨w.heap.size, 5, none⟩)) := (hh 8 (by kernel_rfl)) 11 rfl
      have hcell := hW.cells
      exact wpOp_one rfl rfl (wp_val (w' := W) (by go_simp) (hK _ (by simpa using hW)))
    · cases ho
      have e12 : a.tmps[12]? = some (.string x.1.font) := (hh 9 (by kernel_rfl)) 12 rfl
      have hcell := hW.cells
      exact wpOp_one rfl rfl (wp_val (w' := W) (eql_empty rfl (eval_tmp e12)) (hK _ (by simpa using hW)))
    · cases ho
      have e1 : a.tmps[1]? = some (.pointer (some ⟨w.heap.size, 0, none⟩)) := hr.2.2 1 (by kernel_rfl)
      have hcell := hW.cells
      exact wpOp_one rfl rfl (wp_val (w' := W) (by go_simp) (hK _ (by simpa using hW)))
    · cases ho
      have e14 : a.tmps[14]? = some (.pointer (some ⟨w.heap.size, 5, none⟩)) := (hh 11 (by kernel_rfl)) 14 rfl
      have hcell := hW.cells
      exact wpOp_one rfl rfl (wp_val (w' := W) (by go_simp) (hK _ (by simpa using hW)))
    · cases ho
      have e15 : a.tmps[15]? = some (.string x.1.font) := (hh 12 (by kernel_rfl)) 15 rfl
      refine wpOp_one rfl rfl (wp_enter (w' := W) (by go_simp) ((isName_any x.1.font _ hf.font).mono ?_))
      rintro e w' ⟨rfl, ho⟩
      exact ⟨_, rfl, hK _ (by simpa using hW.still ho)⟩
    · cases ho
      have e10 : a.tmps[10]? = some (.string x.1.font) := (hh 7 (by kernel_rfl)) 10 rfl
      have e13 : a.tmps[13]? = some (.bool (decide (x.1.font.size = 0))) := (hh 10 (by kernel_rfl)) 13 rfl
      have e16 : a.tmps[16]? = some (.bool (nam x.1.font)) := (hh 13 (by kernel_rfl)) 16 rfl
      have hcell := hW.cells
      exact wpOp_one rfl rfl (wp_val (w' := W) (by unfold attrV; go_simp) (hK _ (by simpa using hW)))
    · cases ho
      have e1 : a.tmps[1]? = some (.pointer (some ⟨w.heap.size, 0, none⟩)) := hr.2.2 1 (by kernel_rfl)
      have hcell := hW.cells
      exact wpOp_one rfl rfl (wp_val (w' := W) (by go_simp) (hK _ (by simpa using hW)))
    · cases ho
      have e18 : a.tmps[18]? = some (.pointer (some ⟨w.heap.size, 6, none⟩)) := (hh 15 (by kernel_rfl)) 18 rfl
      have hcell := hW.cells
      exact wpOp_one rfl rfl (wp_val (w' := W) (by go_simp) (hK _ (by simpa using hW)))
    · cases ho
      have e19 : a.tmps[19]? = some (.int .i64 x.1.size) := (hh 16 (by kernel_rfl)) 19 rfl
      refine wpOp_one rfl rfl (wp_enter (w' := W) (by go_simp) ((length_any 2 { data := #[115, 105, 122, 101] } x.1.size 1 67108864 _ hW.tt).mono ?_))
      rintro e w' ⟨rfl, ho⟩
      exact ⟨_, rfl, hK _ (by simpa using hW.still ho)⟩
    · cases ho
      have e1 : a.tmps[1]? = some (.pointer (some ⟨w.heap.size, 0, none⟩)) := hr.2.2 1 (by kernel_rfl)
      have hcell := hW.cells
      exact wpOp_one rfl rfl (wp_val (w' := W) (by go_simp) (hK _ (by simpa using hW)))
    · cases ho
      have e21 : a.tmps[21]? = some (.pointer (some ⟨w.heap.size, 9, none⟩)) := (hh 18 (by kernel_rfl)) 21 rfl
      have hcell := hW.cells
      exact wpOp_one rfl rfl (wp_val (w' := W) (by go_simp) (hK _ (by simpa using hW)))
    · cases ho
      have e22 : a.tmps[22]? = some (.int .i64 x.1.lead) := (hh 19 (by kernel_rfl)) 22 rfl
      refine wpOp_one rfl rfl (wp_enter (w' := W) (by go_simp) ((length_any 16 { data := #[108, 101, 97, 100] } x.1.lead 0 536870912 _ hW.tt).mono ?_))
      rintro e w' ⟨rfl, ho⟩
      exact ⟨_, rfl, hK _ (by simpa using hW.still ho)⟩
    · cases ho
      have e1 : a.tmps[1]? = some (.pointer (some ⟨w.heap.size, 0, none⟩)) := hr.2.2 1 (by kernel_rfl)
      have hcell := hW.cells
      exact wpOp_one rfl rfl (wp_val (w' := W) (by go_simp) (hK _ (by simpa using hW)))
    · cases ho
      have e24 : a.tmps[24]? = some (.pointer (some ⟨w.heap.size, 10, none⟩)) := (hh 21 (by kernel_rfl)) 24 rfl
      have hcell := hW.cells
      exact wpOp_one rfl rfl (wp_val (w' := W) (by go_simp) (hK _ (by simpa using hW)))
    · cases ho
      have e25 : a.tmps[25]? = some (.int .i64 x.1.skip) := (hh 22 (by kernel_rfl)) 25 rfl
      refine wpOp_one rfl rfl (wp_enter (w' := W) (by go_simp) ((length_any 32 { data := #[115, 107, 105, 112] } x.1.skip 0 536870912 _ hW.tt).mono ?_))
      rintro e w' ⟨rfl, ho⟩
      exact ⟨_, rfl, hK _ (by simpa using hW.still ho)⟩
    · cases ho
      have e1 : a.tmps[1]? = some (.pointer (some ⟨w.heap.size, 0, none⟩)) := hr.2.2 1 (by kernel_rfl)
      have hcell := hW.cells
      exact wpOp_one rfl rfl (wp_val (w' := W) (by go_simp) (hK _ (by simpa using hW)))
    · cases ho
      have e27 : a.tmps[27]? = some (.pointer (some ⟨w.heap.size, 11, none⟩)) := (hh 24 (by kernel_rfl)) 27 rfl
      have hcell := hW.cells
      exact wpOp_one rfl rfl (wp_val (w' := W) (by go_simp) (hK _ (by simpa using hW)))
    · cases ho
      have e28 : a.tmps[28]? = some (.int .i64 x.1.tol) := (hh 25 (by kernel_rfl)) 28 rfl
      refine wpOp_one rfl rfl (wp_enter (w' := W) (by go_simp) ((itoa_any x.1.tol _ hf.tol hW.tt).mono ?_))
      rintro e w' ⟨rfl, ho⟩
      exact ⟨_, rfl, hK _ (by simpa using hW.still ho)⟩
    · cases ho
      have e1 : a.tmps[1]? = some (.pointer (some ⟨w.heap.size, 0, none⟩)) := hr.2.2 1 (by kernel_rfl)
      have hcell := hW.cells
      exact wpOp_one rfl rfl (wp_val (w' := W) (by go_simp) (hK _ (by simpa using hW)))
    · cases ho
      have e30 : a.tmps[30]? = some (.pointer (some ⟨w.heap.size, 11, none⟩)) := (hh 27 (by kernel_rfl)) 30 rfl
      have hcell := hW.cells
      exact wpOp_one rfl rfl (wp_val (w' := W) (by go_simp) (hK _ (by simpa using hW)))
    · cases ho
      have e31 : a.tmps[31]? = some (.int .i64 x.1.tol) := (hh 28 (by kernel_rfl)) 31 rfl
      have hcell := hW.cells
      exact wpOp_one rfl rfl (wp_val (w' := W) (by go_simp) (hK _ (by simpa using hW)))
    · cases ho
      have e1 : a.tmps[1]? = some (.pointer (some ⟨w.heap.size, 0, none⟩)) := hr.2.2 1 (by kernel_rfl)
      have hcell := hW.cells
      exact wpOp_one rfl rfl (wp_val (w' := W) (by go_simp) (hK _ (by simpa using hW)))
    · cases ho
      have e33 : a.tmps[33]? = some (.pointer (some ⟨w.heap.size, 11, none⟩)) := (hh 30 (by kernel_rfl)) 33 rfl
      have hcell := hW.cells
      exact wpOp_one rfl rfl (wp_val (w' := W) (by go_simp) (hK _ (by simpa using hW)))
    · cases ho
      have e34 : a.tmps[34]? = some (.int .i64 x.1.tol) := (hh 31 (by kernel_rfl)) 34 rfl
      have hcell := hW.cells
      exact wpOp_one rfl rfl (wp_val (w' := W) (by go_simp) (hK _ (by simpa using hW)))
    · cases ho
      have e35 : a.tmps[35]? = some (.bool true) := (hh 32 (by kernel_rfl)) 35 rfl
      have hcell := hW.cells
      exact wpOp_one rfl rfl (wp_val (w' := W) (run_move rfl (eval_tmp e35)) (hK _ (by simpa using hW)))
    · cases ho
      have e1 : a.tmps[1]? = some (.pointer (some ⟨w.heap.size, 0, none⟩)) := hr.2.2 1 (by kernel_rfl)
      have hcell := hW.cells
      exact wpOp_on rfl rfl rfl (hh 33 (by kernel_rfl)) (wp_val (w' := W) (by go_simp) (hK _ (by simpa using hW)))
    · cases ho
      have e37 : a.tmps[37]? = some (.pointer (some ⟨w.heap.size, 11, none⟩)) := (hh 34 (by kernel_rfl)) 37 rfl
      have hcell := hW.cells
      exact wpOp_on rfl rfl rfl (hh 33 (by kernel_rfl)) (wp_val (w' := W) (by go_simp) (hK _ (by simpa using hW)))
    · cases ho
      have e38 : a.tmps[38]? = some (.int .i64 x.1.tol) := (hh 35 (by kernel_rfl)) 38 rfl
      have hcell := hW.cells
      exact wpOp_on rfl rfl rfl (hh 33 (by kernel_rfl)) (wp_val (w' := W) (by go_simp) (hK _ (by simpa using hW)))
    · cases ho
      have e36 : a.tmps[36]? = some (.bool true) := (hh 33 (by kernel_rfl)) 36 rfl
      have e39 : a.tmps[39]? = some (.bool (decide (x.1.tol ≤ 10000))) := (hh 36 (by kernel_rfl)) 39 rfl
      have hcell := hW.cells
      exact wpOp_one rfl rfl (wp_val (w' := W) (by go_simp) (hK _ (by simpa using hW)))
    · cases ho
      have e29 : a.tmps[29]? = some (.string (tolS x.1.tol)) := (hh 26 (by kernel_rfl)) 29 rfl
      have e32 : a.tmps[32]? = some (.bool (x.1.tol == 0)) := (hh 29 (by kernel_rfl)) 32 rfl
      have e40 : a.tmps[40]? = some (.bool (decide (x.1.tol ≤ 10000))) := (hh 37 (by kernel_rfl)) 40 rfl
      have hcell := hW.cells
      exact wpOp_one rfl rfl (wp_val (w' := W) (by rw [hB]; unfold attrV; go_simp) (hK _ (by simpa using hW)))
    · cases ho
      have e5 : a.tmps[5]? = some (.agg #[.int .i64 4, .string { data := #[119, 105, 100, 116, 104] }, .string (prT x.1.width), .bool (x.1.width == 0), .bool (rt x.1.width 1 536870912)]) := (hh 2 (by kernel_rfl)) 5 rfl
      have e8 : a.tmps[8]? = some (.agg #[.int .i64 8, .string { data := #[104, 101, 105, 103, 104, 116] }, .string (prT x.1.height), .bool (x.1.height == 0), .bool (rt x.1.height 1 536870912)]) := (hh 5 (by kernel_rfl)) 8 rfl
      have e17 : a.tmps[17]? = some (.agg #[.int .i64 1, .string { data := #[102, 111, 110, 116] }, .string x.1.font, .bool (decide (x.1.font.size = 0)), .bool (nam x.1.font)]) := (hh 14 (by kernel_rfl)) 17 rfl
      have e20 : a.tmps[20]? = some (.agg #[.int .i64 2, .string { data := #[115, 105, 122, 101] }, .string (prT x.1.size), .bool (x.1.size == 0), .bool (rt x.1.size 1 67108864)]) := (hh 17 (by kernel_rfl)) 20 rfl
      have e23 : a.tmps[23]? = some (.agg #[.int .i64 16, .string { data := #[108, 101, 97, 100] }, .string (prT x.1.lead), .bool (x.1.lead == 0), .bool (rt x.1.lead 0 536870912)]) := (hh 20 (by kernel_rfl)) 23 rfl
      have e26 : a.tmps[26]? = some (.agg #[.int .i64 32, .string { data := #[115, 107, 105, 112] }, .string (prT x.1.skip), .bool (x.1.skip == 0), .bool (rt x.1.skip 0 536870912)]) := (hh 23 (by kernel_rfl)) 26 rfl
      have e41 : a.tmps[41]? = some (.agg #[.int .i64 64, .string { data := #[116, 111, 108] }, .string (tolS x.1.tol), .bool (x.1.tol == 0), .bool (tolB x.1.tol)]) := (hh 38 (by kernel_rfl)) 41 rfl
      have hcell := hW.cells
      exact wpOp_one rfl rfl (wp_val (w' := W) (by unfold attsC attrV; go_simp) (hK _ (by simpa using hW)))
    · cases ho
      have e2 : a.tmps[2]? = some (.pointer (some ⟨w.heap.size + 1, 0, none⟩)) := hr.2.2 2 (by kernel_rfl)
      have e42 : a.tmps[42]? = some (.agg (attsC x.1).toArray) := (hh 39 (by kernel_rfl)) 42 rfl
      obtain rfl := hl rfl
      exact wpOp_one rfl rfl (wp_store hW (by rfl) (eval_tmp e2) (eval_tmp e42) (fun W' h => hK W' h))
    · cases ho
  · intro us W hW
    go_wp2_with fail
    exact atts_end hW _ (by kernel_rfl)

set_option maxRecDepth 100000 in
set_option maxHeartbeats 8000000 in
theorem atts_neg (x : Nd × Value) (hf : Fit x.1) (w : World) (hT : Tt w) (h0 : ¬ 0 ≤ x.1.tol) :
    Calls Tryd.prog 66 #[.agg (ndc x).toArray] w fun e w' => e = .returned (.agg (attsC x.1).toArray) ∧ Only [] w w' := by
  have hB : (tolB x.1.tol) = false := by unfold tolB; simp; omega
  go_enter Tryd.func66, Tryd.ntmps66
  go_wp2_with fail
  refine region_vals (W := (w.alloc (.cells (ndc x).toArray 42)).alloc (.cells attsC0.toArray 85)) (val := fun i => [.pointer (some ⟨w.heap.size, 7, none⟩), .int .i64 x.1.width, .agg (attrV 4 { data := #[119, 105, 100, 116, 104] } (prT x.1.width) (x.1.width == 0) (rt x.1.width 1 536870912)).toArray, .pointer (some ⟨w.heap.size, 8, none⟩), .int .i64 x.1.height, .agg (attrV 8 { data := #[104, 101, 105, 103, 104, 116] } (prT x.1.height) (x.1.height == 0) (rt x.1.height 1 536870912)).toArray, .pointer (some ⟨w.heap.size, 5, none⟩), .string x.1.font, .pointer (some ⟨w.heap.size, 5, none⟩), .string x.1.font, .bool (decide (x.1.font.size = 0)), .pointer (some ⟨w.heap.size, 5, none⟩), .string x.1.font, .bool (nam x.1.font), .agg (attrV 1 { data := #[102, 111, 110, 116] } x.1.font (decide (x.1.font.size = 0)) (nam x.1.font)).toArray, .pointer (some ⟨w.heap.size, 6, none⟩), .int .i64 x.1.size, .agg (attrV 2 { data := #[115, 105, 122, 101] } (prT x.1.size) (x.1.size == 0) (rt x.1.size 1 67108864)).toArray, .pointer (some ⟨w.heap.size, 9, none⟩), .int .i64 x.1.lead, .agg (attrV 16 { data := #[108, 101, 97, 100] } (prT x.1.lead) (x.1.lead == 0) (rt x.1.lead 0 536870912)).toArray, .pointer (some ⟨w.heap.size, 10, none⟩), .int .i64 x.1.skip, .agg (attrV 32 { data := #[115, 107, 105, 112] } (prT x.1.skip) (x.1.skip == 0) (rt x.1.skip 0 536870912)).toArray, .pointer (some ⟨w.heap.size, 11, none⟩), .int .i64 x.1.tol, .string (tolS x.1.tol), .pointer (some ⟨w.heap.size, 11, none⟩), .int .i64 x.1.tol, .bool (x.1.tol == 0), .pointer (some ⟨w.heap.size, 11, none⟩), .int .i64 x.1.tol, .bool false, .bool false, undef, undef, undef, .bool false, .agg (attrV 64 { data := #[116, 111, 108] } (tolS x.1.tol) (x.1.tol == 0) (tolB x.1.tol)).toArray, .agg (attsC x.1).toArray, undef].getD i undef) (AR w x) 40 (by kernel_rfl) (by kernel_rfl) (by kernel_rfl) (AR.new w x hT) (by kernel_rfl) ?_ [3, 4, 5, 6, 7, 8, 9, 10, 11, 12, 13, 14, 15, 16, 17, 18, 19, 20, 21, 22, 23, 24, 25, 26, 27, 28, 29, 30, 31, 32, 33, 34, 35, 36, 37, 38, 39, 40, 41, 42] (by kernel_rfl) ?_
  · intro i o ho b a W hW hr hh hl K hK
    rcases i with _ | _ | _ | _ | _ | _ | _ | _ | _ | _ | _ | _ | _ | _ | _ | _ | _ | _ | _ | _ | _ | _ | _ | _ | _ | _ | _ | _ | _ | _ | _ | _ | _ | _ | _ | _ | _ | _ | _ | _ | _ | i
    · cases ho
      have e1 : a.tmps[1]? = some (.pointer (some ⟨w.heap.size, 0, none⟩)) := hr.2.2 1 (by kernel_rfl)
      have hcell := hW.cells
      exact wpOp_one rfl rfl (wp_val (w' := W) (by go_simp) (hK _ (by simpa using hW)))
    · cases ho
      have e3 : a.tmps[3]? = some (.pointer (some ⟨w.heap.size, 7, none⟩)) := (hh 0 (by kernel_rfl)) 3 rfl
      have hcell := hW.cells
      exact wpOp_one rfl rfl (wp_val (w' := W) (by go_simp) (hK _ (by simpa using hW)))
    · cases ho
      have e4 : a.tmps[4]? = some (.int .i64 x.1.width) := (hh 1 (by kernel_rfl)) 4 rfl
      refine wpOp_one rfl rfl (wp_enter (w' := W) (by go_simp) ((length_any 4 { data := #[119, 105, 100, 116, 104] } x.1.width 1 536870912 _ hW.tt).mono ?_))
      rintro e w' ⟨rfl, ho⟩
      exact ⟨_, rfl, hK _ (by simpa using hW.still ho)⟩
    · cases ho
      have e1 : a.tmps[1]? = some (.pointer (some ⟨w.heap.size, 0, none⟩)) := hr.2.2 1 (by kernel_rfl)
      have hcell := hW.cells
      exact wpOp_one rfl rfl (wp_val (w' := W) (by go_simp) (hK _ (by simpa using hW)))
    · cases ho
      have e6 : a.tmps[6]? = some (.pointer (some ⟨w.heap.size, 8, none⟩)) := (hh 3 (by kernel_rfl)) 6 rfl
      have hcell := hW.cells
      exact wpOp_one rfl rfl (wp_val (w' := W) (by go_simp) (hK _ (by simpa using hW)))
    · cases ho
      have e7 : a.tmps[7]? = some (.int .i64 x.1.height) := (hh 4 (by kernel_rfl)) 7 rfl
      refine wpOp_one rfl rfl (wp_enter (w' := W) (by go_simp) ((length_any 8 { data := #[104, 101, 105, 103, 104, 116] } x.1.height 1 536870912 _ hW.tt).mono ?_))
      rintro e w' ⟨rfl, ho⟩
      exact ⟨_, rfl, hK _ (by simpa using hW.still ho)⟩
    · cases ho
      have e1 : a.tmps[1]? = some (.pointer (some ⟨w.heap.size, 0, none⟩)) := hr.2.2 1 (by kernel_rfl)
      have hcell := hW.cells
      exact wpOp_one rfl rfl (wp_val (w' := W) (by go_simp) (hK _ (by simpa using hW)))
    · cases ho
      have e9 : a.tmps[9]? = some (.pointer (some ⟨w.heap.size, 5, none⟩)) := (hh 6 (by kernel_rfl)) 9 rfl
      have hcell := hW.cells
      exact wpOp_one rfl rfl (wp_val (w' := W) (by go_simp) (hK _ (by simpa using hW)))
    · cases ho
      have e1 : a.tmps[1]? = some (.pointer (some ⟨w.heap.size, 0, none⟩)) := hr.2.2 1 (by kernel_rfl)
      have hcell := hW.cells
      exact wpOp_one rfl rfl (wp_val (w' := W) (by go_simp) (hK _ (by simpa using hW)))
    · cases ho
      have e11 : a.tmps[11]? = some (.pointer (some ⟨w.heap.size, 5, none⟩)) := (hh 8 (by kernel_rfl)) 11 rfl
      have hcell := hW.cells
      exact wpOp_one rfl rfl (wp_val (w' := W) (by go_simp) (hK _ (by simpa using hW)))
    · cases ho
      have e12 : a.tmps[12]? = some (.string x.1.font) := (hh 9 (by kernel_rfl)) 12 rfl
      have hcell := hW.cells
      exact wpOp_one rfl rfl (wp_val (w' := W) (eql_empty rfl (eval_tmp e12)) (hK _ (by simpa using hW)))
    · cases ho
      have e1 : a.tmps[1]? = some (.pointer (some ⟨w.heap.size, 0, none⟩)) := hr.2.2 1 (by kernel_rfl)
      have hcell := hW.cells
      exact wpOp_one rfl rfl (wp_val (w' := W) (by go_simp) (hK _ (by simpa using hW)))
    · cases ho
      have e14 : a.tmps[14]? = some (.pointer (some ⟨w.heap.size, 5, none⟩)) := (hh 11 (by kernel_rfl)) 14 rfl
      have hcell := hW.cells
      exact wpOp_one rfl rfl (wp_val (w' := W) (by go_simp) (hK _ (by simpa using hW)))
    · cases ho
      have e15 : a.tmps[15]? = some (.string x.1.font) := (hh 12 (by kernel_rfl)) 15 rfl
      refine wpOp_one rfl rfl (wp_enter (w' := W) (by go_simp) ((isName_any x.1.font _ hf.font).mono ?_))
      rintro e w' ⟨rfl, ho⟩
      exact ⟨_, rfl, hK _ (by simpa using hW.still ho)⟩
    · cases ho
      have e10 : a.tmps[10]? = some (.string x.1.font) := (hh 7 (by kernel_rfl)) 10 rfl
      have e13 : a.tmps[13]? = some (.bool (decide (x.1.font.size = 0))) := (hh 10 (by kernel_rfl)) 13 rfl
      have e16 : a.tmps[16]? = some (.bool (nam x.1.font)) := (hh 13 (by kernel_rfl)) 16 rfl
      have hcell := hW.cells
      exact wpOp_one rfl rfl (wp_val (w' := W) (by unfold attrV; go_simp) (hK _ (by simpa using hW)))
    · cases ho
      have e1 : a.tmps[1]? = some (.pointer (some ⟨w.heap.size, 0, none⟩)) := hr.2.2 1 (by kernel_rfl)
      have hcell := hW.cells
      exact wpOp_one rfl rfl (wp_val (w' := W) (by go_simp) (hK _ (by simpa using hW)))
    · cases ho
      have e18 : a.tmps[18]? = some (.pointer (some ⟨w.heap.size, 6, none⟩)) := (hh 15 (by kernel_rfl)) 18 rfl
      have hcell := hW.cells
      exact wpOp_one rfl rfl (wp_val (w' := W) (by go_simp) (hK _ (by simpa using hW)))
    · cases ho
      have e19 : a.tmps[19]? = some (.int .i64 x.1.size) := (hh 16 (by kernel_rfl)) 19 rfl
      refine wpOp_one rfl rfl (wp_enter (w' := W) (by go_simp) ((length_any 2 { data := #[115, 105, 122, 101] } x.1.size 1 67108864 _ hW.tt).mono ?_))
      rintro e w' ⟨rfl, ho⟩
      exact ⟨_, rfl, hK _ (by simpa using hW.still ho)⟩
    · cases ho
      have e1 : a.tmps[1]? = some (.pointer (some ⟨w.heap.size, 0, none⟩)) := hr.2.2 1 (by kernel_rfl)
      have hcell := hW.cells
      exact wpOp_one rfl rfl (wp_val (w' := W) (by go_simp) (hK _ (by simpa using hW)))
    · cases ho
      have e21 : a.tmps[21]? = some (.pointer (some ⟨w.heap.size, 9, none⟩)) := (hh 18 (by kernel_rfl)) 21 rfl
      have hcell := hW.cells
      exact wpOp_one rfl rfl (wp_val (w' := W) (by go_simp) (hK _ (by simpa using hW)))
    · cases ho
      have e22 : a.tmps[22]? = some (.int .i64 x.1.lead) := (hh 19 (by kernel_rfl)) 22 rfl
      refine wpOp_one rfl rfl (wp_enter (w' := W) (by go_simp) ((length_any 16 { data := #[108, 101, 97, 100] } x.1.lead 0 536870912 _ hW.tt).mono ?_))
      rintro e w' ⟨rfl, ho⟩
      exact ⟨_, rfl, hK _ (by simpa using hW.still ho)⟩
    · cases ho
      have e1 : a.tmps[1]? = some (.pointer (some ⟨w.heap.size, 0, none⟩)) := hr.2.2 1 (by kernel_rfl)
      have hcell := hW.cells
      exact wpOp_one rfl rfl (wp_val (w' := W) (by go_simp) (hK _ (by simpa using hW)))
    · cases ho
      have e24 : a.tmps[24]? = some (.pointer (some ⟨w.heap.size, 10, none⟩)) := (hh 21 (by kernel_rfl)) 24 rfl
      have hcell := hW.cells
      exact wpOp_one rfl rfl (wp_val (w' := W) (by go_simp) (hK _ (by simpa using hW)))
    · cases ho
      have e25 : a.tmps[25]? = some (.int .i64 x.1.skip) := (hh 22 (by kernel_rfl)) 25 rfl
      refine wpOp_one rfl rfl (wp_enter (w' := W) (by go_simp) ((length_any 32 { data := #[115, 107, 105, 112] } x.1.skip 0 536870912 _ hW.tt).mono ?_))
      rintro e w' ⟨rfl, ho⟩
      exact ⟨_, rfl, hK _ (by simpa using hW.still ho)⟩
    · cases ho
      have e1 : a.tmps[1]? = some (.pointer (some ⟨w.heap.size, 0, none⟩)) := hr.2.2 1 (by kernel_rfl)
      have hcell := hW.cells
      exact wpOp_one rfl rfl (wp_val (w' := W) (by go_simp) (hK _ (by simpa using hW)))
    · cases ho
      have e27 : a.tmps[27]? = some (.pointer (some ⟨w.heap.size, 11, none⟩)) := (hh 24 (by kernel_rfl)) 27 rfl
      have hcell := hW.cells
      exact wpOp_one rfl rfl (wp_val (w' := W) (by go_simp) (hK _ (by simpa using hW)))
    · cases ho
      have e28 : a.tmps[28]? = some (.int .i64 x.1.tol) := (hh 25 (by kernel_rfl)) 28 rfl
      refine wpOp_one rfl rfl (wp_enter (w' := W) (by go_simp) ((itoa_any x.1.tol _ hf.tol hW.tt).mono ?_))
      rintro e w' ⟨rfl, ho⟩
      exact ⟨_, rfl, hK _ (by simpa using hW.still ho)⟩
    · cases ho
      have e1 : a.tmps[1]? = some (.pointer (some ⟨w.heap.size, 0, none⟩)) := hr.2.2 1 (by kernel_rfl)
      have hcell := hW.cells
      exact wpOp_one rfl rfl (wp_val (w' := W) (by go_simp) (hK _ (by simpa using hW)))
    · cases ho
      have e30 : a.tmps[30]? = some (.pointer (some ⟨w.heap.size, 11, none⟩)) := (hh 27 (by kernel_rfl)) 30 rfl
      have hcell := hW.cells
      exact wpOp_one rfl rfl (wp_val (w' := W) (by go_simp) (hK _ (by simpa using hW)))
    · cases ho
      have e31 : a.tmps[31]? = some (.int .i64 x.1.tol) := (hh 28 (by kernel_rfl)) 31 rfl
      have hcell := hW.cells
      exact wpOp_one rfl rfl (wp_val (w' := W) (by go_simp) (hK _ (by simpa using hW)))
    · cases ho
      have e1 : a.tmps[1]? = some (.pointer (some ⟨w.heap.size, 0, none⟩)) := hr.2.2 1 (by kernel_rfl)
      have hcell := hW.cells
      exact wpOp_one rfl rfl (wp_val (w' := W) (by go_simp) (hK _ (by simpa using hW)))
    · cases ho
      have e33 : a.tmps[33]? = some (.pointer (some ⟨w.heap.size, 11, none⟩)) := (hh 30 (by kernel_rfl)) 33 rfl
      have hcell := hW.cells
      exact wpOp_one rfl rfl (wp_val (w' := W) (by go_simp) (hK _ (by simpa using hW)))
    · cases ho
      have e34 : a.tmps[34]? = some (.int .i64 x.1.tol) := (hh 31 (by kernel_rfl)) 34 rfl
      have hcell := hW.cells
      exact wpOp_one rfl rfl (wp_val (w' := W) (by go_simp) (hK _ (by simpa using hW)))
    · cases ho
      have e35 : a.tmps[35]? = some (.bool false) := (hh 32 (by kernel_rfl)) 35 rfl
      have hcell := hW.cells
      exact wpOp_one rfl rfl (wp_val (w' := W) (run_move rfl (eval_tmp e35)) (hK _ (by simpa using hW)))
    · cases ho
      exact wpOp_off rfl rfl rfl (hh 33 (by kernel_rfl)) rfl (hK _ (by simpa using hW))
    · cases ho
      exact wpOp_off rfl rfl rfl (hh 33 (by kernel_rfl)) rfl (hK _ (by simpa using hW))
    · cases ho
      exact wpOp_off rfl rfl rfl (hh 33 (by kernel_rfl)) rfl (hK _ (by simpa using hW))
    · cases ho
      have e36 : a.tmps[36]? = some (.bool false) := (hh 33 (by kernel_rfl)) 36 rfl
      have hcell := hW.cells
      exact wpOp_one rfl rfl (wp_val (w' := W) (by go_simp) (hK _ (by simpa using hW)))
    · cases ho
      have e29 : a.tmps[29]? = some (.string (tolS x.1.tol)) := (hh 26 (by kernel_rfl)) 29 rfl
      have e32 : a.tmps[32]? = some (.bool (x.1.tol == 0)) := (hh 29 (by kernel_rfl)) 32 rfl
      have e40 : a.tmps[40]? = some (.bool false) := (hh 37 (by kernel_rfl)) 40 rfl
      have hcell := hW.cells
      exact wpOp_one rfl rfl (wp_val (w' := W) (by rw [hB]; unfold attrV; go_simp) (hK _ (by simpa using hW)))
    · cases ho
      have e5 : a.tmps[5]? = some (.agg #[.int .i64 4, .string { data := #[119, 105, 100, 116, 104] }, .string (prT x.1.width), .bool (x.1.width == 0), .bool (rt x.1.width 1 536870912)]) := (hh 2 (by kernel_rfl)) 5 rfl
      have e8 : a.tmps[8]? = some (.agg #[.int .i64 8, .string { data := #[104, 101, 105, 103, 104, 116] }, .string (prT x.1.height), .bool (x.1.height == 0), .bool (rt x.1.height 1 536870912)]) := (hh 5 (by kernel_rfl)) 8 rfl
      have e17 : a.tmps[17]? = some (.agg #[.int .i64 1, .string { data := #[102, 111, 110, 116] }, .string x.1.font, .bool (decide (x.1.font.size = 0)), .bool (nam x.1.font)]) := (hh 14 (by kernel_rfl)) 17 rfl
      have e20 : a.tmps[20]? = some (.agg #[.int .i64 2, .string { data := #[115, 105, 122, 101] }, .string (prT x.1.size), .bool (x.1.size == 0), .bool (rt x.1.size 1 67108864)]) := (hh 17 (by kernel_rfl)) 20 rfl
      have e23 : a.tmps[23]? = some (.agg #[.int .i64 16, .string { data := #[108, 101, 97, 100] }, .string (prT x.1.lead), .bool (x.1.lead == 0), .bool (rt x.1.lead 0 536870912)]) := (hh 20 (by kernel_rfl)) 23 rfl
      have e26 : a.tmps[26]? = some (.agg #[.int .i64 32, .string { data := #[115, 107, 105, 112] }, .string (prT x.1.skip), .bool (x.1.skip == 0), .bool (rt x.1.skip 0 536870912)]) := (hh 23 (by kernel_rfl)) 26 rfl
      have e41 : a.tmps[41]? = some (.agg #[.int .i64 64, .string { data := #[116, 111, 108] }, .string (tolS x.1.tol), .bool (x.1.tol == 0), .bool (tolB x.1.tol)]) := (hh 38 (by kernel_rfl)) 41 rfl
      have hcell := hW.cells
      exact wpOp_one rfl rfl (wp_val (w' := W) (by unfold attsC attrV; go_simp) (hK _ (by simpa using hW)))
    · cases ho
      have e2 : a.tmps[2]? = some (.pointer (some ⟨w.heap.size + 1, 0, none⟩)) := hr.2.2 2 (by kernel_rfl)
      have e42 : a.tmps[42]? = some (.agg (attsC x.1).toArray) := (hh 39 (by kernel_rfl)) 42 rfl
      obtain rfl := hl rfl
      exact wpOp_one rfl rfl (wp_store hW (by rfl) (eval_tmp e2) (eval_tmp e42) (fun W' h => hK W' h))
    · cases ho
  · intro us W hW
    go_wp2_with fail
    exact atts_end hW _ (by kernel_rfl)

theorem atts_any (x : Nd × Value) (hf : Fit x.1) (w : World) (hT : Tt w) :
    Calls Tryd.prog 66 #[.agg (ndc x).toArray] w fun e w' => e = .returned (.agg (attsC x.1).toArray) ∧ Only [] w w' := by
  by_cases h0 : 0 ≤ x.1.tol
  · exact atts_pos x hf w hT h0
  · exact atts_neg x hf w hT h0
end Go.Proofs.YtmlhibcbgdhadaaDoor
