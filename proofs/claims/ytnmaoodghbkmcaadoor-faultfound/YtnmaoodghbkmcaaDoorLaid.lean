/- What the condition on the listed variables gives the walks: where the six errors lie, that no two are one, their texts, and the handle of the type error. And a memory that meets it: the one that the program's own initialisers leave. -/
import Derived.Test.YtnmaoodghbkmcaaDoorRows
import Derived.Test.YtnmaoodghbkmcaaDoorChain
import Derived.ProofKit
import Derived.LaidMore
import Derived.OpenShut
import Derived.Stop.LaidErr
import Derived.LaidHandle
import Derived.Stop.Joined
namespace Go.Proofs.YtnmaoodghbkmcaaDoor
open Go.ChangeShapes Go.WideShapes Go.ChangeAt Go.RowKit

theorem own : ownKnob Tryd.prog.godebug = none := by kernel_rfl
theorem gText : Tryd.prog.globalNamed "platen/fault.ErrText" = some 0 := by kernel_rfl
theorem gSyntax : Tryd.prog.globalNamed "platen/fault.ErrSyntax" = some 1 := by kernel_rfl
theorem gBudget : Tryd.prog.globalNamed "platen/fault.ErrBudget" = some 2 := by kernel_rfl
theorem gFont : Tryd.prog.globalNamed "platen/fault.ErrFont" = some 3 := by kernel_rfl
theorem gLimit : Tryd.prog.globalNamed "platen/fault.ErrLimit" = some 4 := by kernel_rfl
theorem gRange : Tryd.prog.globalNamed "platen/fault.ErrRange" = some 5 := by kernel_rfl
theorem gErrorType : Tryd.prog.globalNamed "errors.errorType" = some 6 := by kernel_rfl
theorem tg0 : (Tryd.prog.globals[0]?).map (·.type) = some 27 := by kernel_rfl
theorem tg1 : (Tryd.prog.globals[1]?).map (·.type) = some 27 := by kernel_rfl
theorem tg2 : (Tryd.prog.globals[2]?).map (·.type) = some 27 := by kernel_rfl
theorem tg3 : (Tryd.prog.globals[3]?).map (·.type) = some 27 := by kernel_rfl
theorem tg4 : (Tryd.prog.globals[4]?).map (·.type) = some 27 := by kernel_rfl
theorem tg5 : (Tryd.prog.globals[5]?).map (·.type) = some 27 := by kernel_rfl
theorem star : "*" ++ "errors.errorString" = "*errors.errorString" := by decide
theorem row90 (u : TypeId) (h : Tryd.prog.typeName? 3 u = some "*errors.errorString") : u = 90 :=
  typeName_ptr_named (nm := "errors.errorString") (by rw [star]; kernel_rfl) (by kernel_rfl) (by decide) u (by rw [star]; exact h)
theorem cells127 : Tryd.prog.cellsOf 127 = 1 := by kernel_rfl
theorem cells9 : Tryd.prog.cellsOf 9 = 1 := by kernel_rfl
theorem rtypeRow : (Tryd.prog.cutTypes.find? (·.1 == "internal/reflectlite.rtype")).map (·.2) = some 67 := by kernel_rfl
theorem typesSize : Tryd.prog.types.size = 139 := by kernel_rfl
theorem oneRow : ((List.range 139).filter fun t => Tryd.prog.rowNamed t [101, 114, 114, 111, 114]) = [27] := by kernel_rfl
theorem handle27 : typeHandle Tryd.prog 27 = .pointer (some ⟨10, 27, none⟩) := by kernel_rfl

/-- what is asked of the places of a list -/
def Sound (W : World) (ps : List MemPlace) : Prop := ps.Nodup ∧ ∀ b off, MemPlace.cell b off ∈ ps →
    (∃ c t, W.heap[b]? = some (.cells c t (0, 0))) ∧ ∀ u v, W.cell? ⟨b, off, none⟩ = some (.iface u v) → Value.okWide Tryd.prog W .any 0 u v

set_option maxRecDepth 100000 in
/-- one of the errors, and what follows it on the list -/
theorem head {n : String} {g : Nat} {text : List UInt8} {r : List (String × DataW Unit)} {W : World} {ps : List MemPlace}
    (hg : Tryd.prog.globalNamed n = some g) (ht : (Tryd.prog.globals[g]?).map (·.type) = some 27)
    (h : DataW.LaidVars Tryd.prog W ((n, .iface "*errors.errorString" (.ptr (.agg [.lit (.string text)]))) :: r) ps) (hs : Sound W ps) :
    ∃ (a : Addr) (s : ByteArray) (q : List MemPlace), W.cell? ⟨g, 0, none⟩ = some (.iface 90 (.pointer (some a))) ∧ W.cell? a = some (.string s) ∧ s.data.toList = text ∧
      (∃ c t, W.heap[a.block]? = some (.cells c t (0, 0))) ∧ MemPlace.cell a.block a.off ∈ ps ∧ MemPlace.cell a.block a.off ∉ q ∧ (∀ x ∈ q, x ∈ ps) ∧
      DataW.LaidVars Tryd.prog W r q ∧ Sound W q := by
  obtain ⟨hnd, hrows⟩ := hs
  obtain ⟨g', t', cs, f, p, q, hg', ht', hv, hd, hq, e⟩ := h
  obtain rfl := Option.some.inj (hg.symm.trans hg')
  obtain rfl := Option.some.inj (ht.symm.trans ht')
  subst e
  obtain ⟨l⟩ := cs
  have ok : ∀ u v, l = [.iface u v] → Value.okWide Tryd.prog W .any 0 u v := fun u v e => by
    subst e
    exact (hrows g 0 (by simp [MemPlace.row])).2 u v (by simpa using World.var?_cell hg' hv 0)
  obtain ⟨a, s, rfl, hc, hs, hz, rfl⟩ := errorString_of_trod Tryd.underlying27 row90 Tryd.underlying90 Tryd.underlying127 rfl rfl Tryd.underlying9 cells127 cells9 hd ok
  have hin : MemPlace.cell a.block a.off ∈ MemPlace.row a 1 := by simp [MemPlace.row]
  refine ⟨a, s, q, by simpa using World.var?_cell hg' hv 0, hc, hs, (hrows a.block a.off (by simp [MemPlace.row])).1, by simp [MemPlace.row], ?_, fun x hx => List.mem_append_right _ hx, hq, ?_, fun b off hm => hrows b off (List.mem_append_right _ hm)⟩
  · intro hm
    exact (List.nodup_append.1 hnd).2.2 _ (List.mem_append_right _ hin) _ hm rfl
  · exact (List.nodup_append.1 hnd).2.1

/-- the six texts, by the globals' numbers -/
def textOf : Nat → ByteArray
  | 0 => { data := #[116, 101, 120, 116] }
  | 1 => { data := #[115, 121, 110, 116, 97, 120] }
  | 2 => { data := #[98, 117, 100, 103, 101, 116] }
  | 3 => { data := #[102, 111, 110, 116] }
  | 4 => { data := #[108, 105, 109, 105, 116] }
  | _ => { data := #[114, 97, 110, 103, 101] }
def Tx (A : Nat → Addr) (w : World) : Prop := ∀ g, g < 6 → w.cell? (A g) = some (.string (textOf g))
theorem Tx.only {A : Nat → Addr} {w w' : World} (h : Tx A w) (hG : Gl A w) (k : Only [] w w') : Tx A w' := fun g hg => by
  obtain ⟨c, t, e⟩ := hG.blk g hg
  rw [World.cell?_of_block (k.block _ (heap_lt e) (by simp))]
  exact h g hg
theorem bytes_of {s : ByteArray} {a : Array UInt8} (h : s.data.toList = a.toList) : s = { data := a } := by
  cases s with
  | mk d => simp only at h; rw [Array.toList_inj.1 h]

theorem addr_ne {a b : Addr} {q : List MemPlace} (ha : MemPlace.cell a.block a.off ∉ q) (hb : MemPlace.cell b.block b.off ∈ q) : a ≠ b := fun e => by subst e; exact ha hb

/-- WHAT THE CONDITION GIVES -/
theorem gl_of_laid {W : World} (h : laidMetH Tryd.prog Rows.faultNamesRow.laid W) : ∃ A, Gl A W ∧ Tx A W := by
  have h' : laidMet Tryd.prog [("platen/fault.ErrBudget", Rows.laid_platen_fault_ErrBudget), ("platen/fault.ErrSyntax", Rows.laid_platen_fault_ErrSyntax), ("platen/fault.ErrText", Rows.laid_platen_fault_ErrText), ("platen/fault.ErrFont", Rows.laid_platen_fault_ErrFont), ("platen/fault.ErrLimit", Rows.laid_platen_fault_ErrLimit), ("platen/fault.ErrRange", Rows.laid_platen_fault_ErrRange)] W ∧ handlesMet Tryd.prog [("errors.errorType", Rows.laid_errors_errorType)] W := h
  obtain ⟨name, u, ty, e1, e2, e3, e4, e5⟩ := h'.2 _ (List.mem_singleton.2 rfl)
  have en : name = [101, 114, 114, 111, 114] := (Option.some.inj e1).symm
  subst en
  obtain rfl := Option.some.inj (rtypeRow.symm.trans e2)
  have hm : ty ∈ (List.range 139).filter fun t => Tryd.prog.rowNamed t [101, 114, 114, 111, 114] := List.mem_filter.2 ⟨List.mem_range.2 (by rw [← typesSize]; exact e3), e4⟩
  rw [oneRow] at hm
  obtain rfl := List.mem_singleton.1 hm
  rw [handle27] at e5
  obtain ⟨ps, hv, hnd, hrows⟩ := h'.1
  obtain ⟨a2, s2, q2, c2, x2, t2, b2, i2, n2, m2, hv2, hs2⟩ := head gBudget tg2 hv ⟨hnd, hrows⟩
  obtain ⟨a1, s1, q1, c1, x1, t1, b1, i1, n1, m1, hv1, hs1⟩ := head gSyntax tg1 hv2 hs2
  obtain ⟨a0, s0, q0, c0, x0, t0, b0, i0, n0, m0, hv0, hs0⟩ := head gText tg0 hv1 hs1
  obtain ⟨a3, s3, q3, c3, x3, t3, b3, i3, n3, m3, hv3, hs3⟩ := head gFont tg3 hv0 hs0
  obtain ⟨a4, s4, q4, c4, x4, t4, b4, i4, n4, m4, hv4, hs4⟩ := head gLimit tg4 hv3 hs3
  obtain ⟨a5, s5, q5, c5, x5, t5, b5, i5, n5, m5, hv5, hs5⟩ := head gRange tg5 hv4 hs4
  have d21 := addr_ne n2 i1
  have d20 := addr_ne n2 (m1 _ i0)
  have d23 := addr_ne n2 (m1 _ (m0 _ i3))
  have d24 := addr_ne n2 (m1 _ (m0 _ (m3 _ i4)))
  have d25 := addr_ne n2 (m1 _ (m0 _ (m3 _ (m4 _ i5))))
  have d10 := addr_ne n1 i0
  have d13 := addr_ne n1 (m0 _ i3)
  have d14 := addr_ne n1 (m0 _ (m3 _ i4))
  have d15 := addr_ne n1 (m0 _ (m3 _ (m4 _ i5)))
  have d03 := addr_ne n0 i3
  have d04 := addr_ne n0 (m3 _ i4)
  have d05 := addr_ne n0 (m3 _ (m4 _ i5))
  have d34 := addr_ne n3 i4
  have d35 := addr_ne n3 (m4 _ i5)
  have d45 := addr_ne n4 i5
  let A : Nat → Addr := fun g => match g with | 0 => a0 | 1 => a1 | 2 => a2 | 3 => a3 | 4 => a4 | _ => a5
  have six : ∀ g, g < 6 → g = 0 ∨ g = 1 ∨ g = 2 ∨ g = 3 ∨ g = 4 ∨ g = 5 := by omega
  refine ⟨A, ⟨?_, ?_, ?_, by simpa using World.var?_cell gErrorType e5 0⟩, ?_⟩
  · intro g hg
    rcases six g hg with rfl | rfl | rfl | rfl | rfl | rfl <;> assumption
  · intro i j hi hj e
    rcases six i hi with rfl | rfl | rfl | rfl | rfl | rfl <;> rcases six j hj with rfl | rfl | rfl | rfl | rfl | rfl <;>
      first | rfl | (exfalso; first | exact d21 e | exact d21 e.symm | exact d20 e | exact d20 e.symm | exact d23 e | exact d23 e.symm | exact d24 e | exact d24 e.symm | exact d25 e | exact d25 e.symm | exact d10 e | exact d10 e.symm | exact d13 e | exact d13 e.symm | exact d14 e | exact d14 e.symm | exact d15 e | exact d15 e.symm | exact d03 e | exact d03 e.symm | exact d04 e | exact d04 e.symm | exact d05 e | exact d05 e.symm | exact d34 e | exact d34 e.symm | exact d35 e | exact d35 e.symm | exact d45 e | exact d45 e.symm)
  · intro g hg
    rcases six g hg with rfl | rfl | rfl | rfl | rfl | rfl <;> assumption
  · intro g hg
    rcases six g hg with rfl | rfl | rfl | rfl | rfl | rfl
    · have e := bytes_of (a := #[116, 101, 120, 116]) t0
      subst e
      exact x0
    · have e := bytes_of (a := #[115, 121, 110, 116, 97, 120]) t1
      subst e
      exact x1
    · have e := bytes_of (a := #[98, 117, 100, 103, 101, 116]) t2
      subst e
      exact x2
    · have e := bytes_of (a := #[102, 111, 110, 116]) t3
      subst e
      exact x3
    · have e := bytes_of (a := #[108, 105, 109, 105, 116]) t4
      subst e
      exact x4
    · have e := bytes_of (a := #[114, 97, 110, 103, 101]) t5
      subst e
      exact x5

/-- The door's own heap meets the condition: three closed facts. -/
theorem door_met (os : Os) (args : Array Value) : laidMetH Tryd.prog Rows.faultNamesRow.laid ((World.doorLaid Tryd.prog 400 os).forCall (fun _ _ => 0) ⟨#[], args, []⟩).memory :=
  laidMetH_of_parts3 (fuel := 8) (laidMet_of_run' 8 (by kernel_rfl) (by kernel_rfl)) (by kernel_rfl) (by kernel_rfl)
end Go.Proofs.YtnmaoodghbkmcaaDoor
