/- copy of elements of more than one cell into a row of one's own. -/
import Derived.Test.YtdinlaoimpoolaaRefPut
import Derived.Laws.MakeOwn
import Derived.Laws.OwnMore
namespace Go.Proofs.Ytdinlaoimpoolaa
open Go.RowKit

theorem run_copy_many {P : Program} (w : World) (dT sT ty elem : TypeId) (g dLen dCap : Nat) (so : Option Addr) (sLen sCap k : Nat) (cur : List Value) (t : TypeId) (cs : List Value)
    (hu : P.underlying dT = some (.slice elem)) (hs : (P.info? elem).map (·.size) = some k) (hg : Blk w g cur t) (hn : cs.length = sLen * k) (hle : sLen ≤ dLen) (hsl : Sl w so sLen cs) (hfit : cs.length ≤ cur.length) (h1 : ∀ v ∈ cs, v.oneCell' = true) :
    ∃ w', (Builtin.copy_ #[dT, sT] ty #[.slice (some ⟨g, 0, none⟩) dLen dCap, .slice so sLen sCap]).run P w = .ok (goInt sLen) w' ∧ Blk w' g (cs ++ cur.drop cs.length) t ∧ Only [g] w w' := by
  have hst := run_storeCells_at P g 0 t cs 0 cur.toArray w hg (by simpa using hfit) h1
  have hmin : Nat.min sLen dLen = sLen := Nat.min_eq_left hle
  refine ⟨w.setRow g (cur.toArray.toList.take (0 + 0) ++ cs ++ cur.toArray.toList.drop (0 + 0 + cs.length)).toArray, ?_, ?_, only_row _⟩
  rotate_left
  · have := setRow_heap w g cur.toArray (cur.toArray.toList.take (0 + 0) ++ cs ++ cur.toArray.toList.drop (0 + 0 + cs.length)).toArray t (0, 0) hg
    simpa [Blk] using this
  cases hq : P.info? elem with
  | none => simp [hq] at hs
  | some i =>
    have hi : i.size = k := by simpa [hq] using hs
    cases so with
    | none =>
      have h0 : sLen = 0 := by
        rcases Nat.eq_zero_or_pos sLen with q | q
        · exact q
        · obtain ⟨b, off, e, _⟩ := hsl (by omega); cases e
      subst h0
      have hc : cs = [] := List.eq_nil_of_length_eq_zero (by rw [hn, Nat.zero_mul])
      subst hc
      simp [Builtin.copy_, run_underlying hu, Builtin.lenOf, Builtin.firstCells, sizeOf, typeInfo, hq, hmin, hst]
    | some a =>
      have hsrc : ∀ j v, cs[j]? = some v → w.cell? (a.add j) = some v := by
        intro j v hj
        have h0 : sLen ≠ 0 := fun e => by
          have : cs = [] := List.eq_nil_of_length_eq_zero (by rw [hn, e, Nat.zero_mul])
          rw [this] at hj; simp at hj
        obtain ⟨b, off, e, _, ha⟩ := hsl h0
        cases e
        rw [Addr.add_lit]
        exact ha j v hj
      have hl := run_loadCells_list (P := P) w a cs hsrc
      simp [Builtin.copy_, run_underlying hu, Builtin.lenOf, Builtin.firstCells, sizeOf, typeInfo, hq, hi, hmin, ← hn, hl, hst]
theorem wpList_copy_many {P : Program} {w : World} {ops : Array Oper} {rest : List Oper} {o : Oper} {a : Act} {Q : Exit → Act → World → Prop} (hgd : o.guard = none) (d s : Operand) (dT sT : TypeId)
    (ho : o.op = .call { callee := .builtin .copy, args := #[d, s], argTypes := #[dT, sT] }) (elem : TypeId) (hu : P.underlying dT = some (.slice elem)) (k : Nat) (hsz : (P.info? elem).map (·.size) = some k)
    (g dLen dCap : Nat) (so : Option Addr) (sLen sCap : Nat) (hd : a.eval d = .slice (some ⟨g, 0, none⟩) dLen dCap) (hs : a.eval s = .slice so sLen sCap)
    (cur : List Value) (t : TypeId) (hg : Blk w g cur t) (cs : List Value) (hn : cs.length = sLen * k) (hle : sLen ≤ dLen) (hsl : Sl w so sLen cs) (hfit : cs.length ≤ cur.length) (h1 : ∀ v ∈ cs, v.oneCell' = true)
    (h : ∀ w', Blk w' g (cs ++ cur.drop cs.length) t → Only [g] w w' → wpList P ops Q rest (a.put o.dst (goInt sLen)) w') : wpList P ops Q (o :: rest) a w := by
  refine wpList_plain hgd fun K hK => ?_
  obtain ⟨w', hrun, h2, h3⟩ := run_copy_many (P := P) w dT sT o.type elem g dLen dCap so sLen sCap k cur t cs hu hsz hg hn hle hsl hfit h1
  unfold Oper.wp
  simp [execOp, ho, resolve, invoke, builtin, hd, hs, hrun, Result.andThen]
  exact hK _ _ (h w' h2 h3)
theorem drop_made (z : Array Value) (n k : Nat) (hk : z.size = k) (_ : 0 < k) : (madeCells z ((n + 1) * k)).toList.drop (n * k) = z.toList := by
  have hs : (n + 1) * k = n * k + k := Nat.succ_mul n k
  apply List.ext_getElem?
  intro j
  rw [List.getElem?_drop]
  by_cases hj : j < k
  · have h1 : (n * k + j) % k = j := by rw [Nat.mul_comm, Nat.mul_add_mod]; exact Nat.mod_eq_of_lt hj
    have hl : n * k + j < (n + 1) * k := by omega
    have hz : j < z.size := by omega
    have hg : z[j]! = z[j] := getElem!_pos z j hz
    simp [madeCells, hl, hk, h1, hg]
  · rw [List.getElem?_eq_none (by rw [Array.length_toList, size_madeCells]; omega), List.getElem?_eq_none (by rw [Array.length_toList]; omega)]
theorem info33 : (Try.prog.info? 33).map (·.size) = some 4 := by kernel_rfl
theorem info35 : (Try.prog.info? 35).map (·.size) = some 5 := by kernel_rfl
end Go.Proofs.Ytdinlaoimpoolaa
