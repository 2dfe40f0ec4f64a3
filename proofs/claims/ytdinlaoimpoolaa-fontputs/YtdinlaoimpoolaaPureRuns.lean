/- Single operations that turn nothing, as they run. -/
import Derived.Test.YtdinlaoimpoolaaTwoRows
namespace Go.Proofs.Ytdinlaoimpoolaa
open Go.RowKit

theorem run_move {a : Act} {w : World} {o : Oper} {x : Operand} {v : Value} (hop : o.op = .move x) (hx : a.eval x = v) : (execOp a.eval o).run Try.prog w = .ok (.value v) w := by
  simp only [execOp, hop, hx]
  rfl
theorem run_extract {a : Act} {w : World} {o : Oper} {x : Operand} {i : Nat} {vs : Array Value} {v : Value} (hop : o.op = .extract x i) (hx : a.eval x = .tuple vs) (hv : vs[i]? = some v) : (execOp a.eval o).run Try.prog w = .ok (.value v) w := by
  simp only [execOp, hop, hx]
  simp only [Instr.extract, hv]
  rfl
theorem run_conv {a : Act} {w : World} {o : Oper} {x : Operand} {v u : Value} (hop : o.op = .convert 56 9 x) (hx : a.eval x = v) (hr : (convert 56 9 v).run Try.prog w = .ok u w) : (execOp a.eval o).run Try.prog w = .ok (.value u) w := by
  simp only [execOp, hop, hx]
  go_simp
theorem run_cut {a : Act} {w : World} {o : Oper} {x y : Operand} {S : ByteArray} {A : Nat} (hop : o.op = .slice 9 x none (some y) none) (hx : a.eval x = .string S) (hy : a.eval y = .int .i64 (A : Int)) (hA : A ≤ S.size) : (execOp a.eval o).run Try.prog w = .ok (.value (.string (S.extract 0 A))) w := by
  have h1 : (0 : Int) ≤ (A : Int) := by omega
  have h2 : (A : Int) ≤ (S.size : Int) := by omega
  simp only [execOp, hop, Option.map_some, Option.map_none, hx, hy]
  go_simp
theorem run_byte {a : Act} {w : World} {o : Oper} {x y z : Operand} {c n cap A : Nat} (hop : o.op = .slice 56 x (some y) (some z) none) (hx : a.eval x = .slice (some ⟨c, 0, none⟩) n cap) (hy : a.eval y = .int .i64 (A : Int)) (hz : a.eval z = .int .i64 ((A : Int) + 1)) (hA : A < n) (hn : n ≤ cap) :
    (execOp a.eval o).run Try.prog w = .ok (.value (.slice (some ⟨c, A, none⟩) 1 (cap - A))) w := by
  have h1 : (0 : Int) ≤ (A : Int) := by omega
  have h2 : (A : Int) ≤ (A : Int) + 1 := by omega
  have h3 : (A : Int) + 1 ≤ (cap : Int) := by omega
  have h4 : ¬ cap = A := by omega
  simp only [execOp, hop, Option.map_some, Option.map_none, hx, hy, hz]
  go_simp
theorem run_join {a : Act} {w : World} {o : Oper} {x y : Operand} {S T : ByteArray} (hop : o.op = .binOp .add 9 x y 9) (hx : a.eval x = .string S) (hy : a.eval y = .string T) (hs : S.size + T.size ≤ 9223372036854775807) : (execOp a.eval o).run Try.prog w = .ok (.value (.string (S ++ T))) w := by
  simp only [execOp, hop, hx, hy]
  go_simp
theorem run_inc {a : Act} {w : World} {o : Oper} {x : Operand} {A : Nat} (hop : o.op = .binOp .add 3 x (.const (.int .i64 1)) 3) (hx : a.eval x = .int .i64 (A : Int)) (hA : (A : Int) + 1 ≤ 9223372036854775807) : (execOp a.eval o).run Try.prog w = .ok (.value (.int .i64 ((A : Int) + 1))) w := by
  have h1 : a.eval (.const (.int .i64 1)) = .int .i64 1 := rfl
  have h2 : IntKind.i64.wrap ((A : Int) + 1) = (A : Int) + 1 := by
    simp only [IntKind.wrap, IntKind.bits, IntKind.signed]
    simp
    omega
  simp only [execOp, hop, hx, h1]
  go_simp
end Go.Proofs.Ytdinlaoimpoolaa
