/- What must be, said of what is read; single operations of the reference's reader. -/
import Derived.Test.YtdinlaoimpoolaaRefGl
import Derived.Test.YtdinlaoimpoolaaEffects
import Derived.Test.YtdinlaoimpoolaaRefPut0
namespace Go.Proofs.Ytdinlaoimpoolaa
open Go.RowKit

theorem nxt_sm (s : St) : (nxt s).sm = s.sm := by
  show (put s s.nu).sm = s.sm
  unfold put; split <;> rfl
theorem Bd.only {r mb : Nat} {b : ByteArray} {RES : M × ((Int × Nat) ⊕ St)} {W W' : World} (h : Bd r mb b RES W) (k : Only [] W W') : Bd r mb b RES W' := h.below k.below
theorem must_st (r mb : Nat) (b : ByteArray) (RES : M × ((Int × Nat) ⊕ St)) (s : St) (n : Nat) (ok : Bool) (w : World) (hx : s.nx ≠ 15) (hsz : b.size ≤ 9223372036854775807)
    (h : (∃ i m, Pd r mb b RES s n w i m ∧ ok = fits (read s (sz s.nx) n) n) ∨ Bd r mb b RES w) :
    Calls Try.prog 37 #[.pointer (some ⟨r, 0, none⟩), .bool ok] w fun e w' => e = .returned (.tuple #[]) ∧ Only [r] w w' ∧ ((∃ i m, Ra r mb b RES (nxt (read s (sz s.nx) n)) w' i m) ∨ Bd r mb b RES w') := by
  rcases h with ⟨i, m, hp, hok⟩ | ⟨i, a, e0, m, hrs, hmo, hle, he, hres⟩
  · refine (must_any ok r mb b i 0 0 m w hp.rs (by have := hp.le; omega)).mono ?_
    rintro e w' ⟨h1, h2, h3⟩
    refine ⟨h1, h3, ?_⟩
    have hr := hp.res
    rw [← hok] at hr
    have hpos := hp.pos
    cases ok with
    | true =>
      rw [if_pos rfl] at hr
      simp only [Bool.true_eq_false, false_and, if_false] at h2
      by_cases h14 : s.nx ≤ 14
      · exact .inl ⟨i, m, h2, hp.ok, hp.le, hr.symm, fun _ => by rw [nxt_sm]; exact hp.sm h14, rfl, rfl⟩
      · exfalso
        have : fits (read s (sz s.nx) n) n = false := by
          have hx2 : (read s (sz s.nx) n).nx = s.nx := rfl
          unfold fits
          rw [hx2]
          split <;> first | omega | rfl
        rw [this] at hok
        cases hok
    | false =>
      rw [if_neg (by decide)] at hr
      simp only [true_and, if_true] at h2
      refine .inr ⟨i, i - 1, 60, m, ?_, hp.ok, hp.le, by decide, ?_⟩
      · rw [show ((i - 1 : Nat) : Int) = (i : Int) - 1 by omega]; exact h2
      · rw [hr]
        unfold bad
        rw [if_neg hx]
  · refine (must_any ok r mb b i e0 a m w hrs (by omega)).mono ?_
    rintro e w' ⟨h1, h2, h3⟩
    refine ⟨h1, h3, .inr ⟨i, a, e0, m, ?_, hmo, hle, he, hres⟩⟩
    rw [if_neg (fun q => he q.2), if_neg (fun q => he q.2)] at h2
    exact h2

/-! single operations -/
theorem run_at33 {a : Act} {w : World} {o : Oper} {x : Operand} {d i : Nat} (hop : o.op = .fieldAddr 33 x 0) (hx : a.eval x = .pointer (some ⟨d, i, none⟩)) : (execOp a.eval o).run Try.prog w = .ok (.value (.pointer (some ⟨d, i, none⟩))) w := by
  simp only [execOp, hop, hx]; go_simp
theorem run_at35_0 {a : Act} {w : World} {o : Oper} {x : Operand} {d i : Nat} (hop : o.op = .fieldAddr 35 x 0) (hx : a.eval x = .pointer (some ⟨d, i, none⟩)) : (execOp a.eval o).run Try.prog w = .ok (.value (.pointer (some ⟨d, i, none⟩))) w := by
  simp only [execOp, hop, hx]; go_simp
theorem run_at35_1 {a : Act} {w : World} {o : Oper} {x : Operand} {d i : Nat} (hop : o.op = .fieldAddr 35 x 1) (hx : a.eval x = .pointer (some ⟨d, i, none⟩)) : (execOp a.eval o).run Try.prog w = .ok (.value (.pointer (some ⟨d, i + 1, none⟩))) w := by
  simp only [execOp, hop, hx]; go_simp
theorem run_fa25_1 {a : Act} {w : World} {o : Oper} {x : Operand} {d : Nat} (hop : o.op = .fieldAddr 25 x 1) (hx : a.eval x = .pointer (some ⟨d, 0, none⟩)) : (execOp a.eval o).run Try.prog w = .ok (.value (.pointer (some ⟨d, 1, none⟩))) w := by
  simp only [execOp, hop, hx]; go_simp
theorem run_fa25_2 {a : Act} {w : World} {o : Oper} {x : Operand} {d : Nat} (hop : o.op = .fieldAddr 25 x 2) (hx : a.eval x = .pointer (some ⟨d, 0, none⟩)) : (execOp a.eval o).run Try.prog w = .ok (.value (.pointer (some ⟨d, 2, none⟩))) w := by
  simp only [execOp, hop, hx]; go_simp
theorem run_load22 {a : Act} {w : World} {o : Oper} {x : Operand} {d i : Nat} {v : Value} (hop : o.op = .load 22 x) (hx : a.eval x = .pointer (some ⟨d, i, none⟩)) (hc : w.cell? ⟨d, i, none⟩ = some v) : (execOp a.eval o).run Try.prog w = .ok (.value v) w := by
  simp only [execOp, hop, hx]; go_simp
theorem run_load23 {a : Act} {w : World} {o : Oper} {x : Operand} {d i : Nat} {v : Value} (hop : o.op = .load 23 x) (hx : a.eval x = .pointer (some ⟨d, i, none⟩)) (hc : w.cell? ⟨d, i, none⟩ = some v) : (execOp a.eval o).run Try.prog w = .ok (.value v) w := by
  simp only [execOp, hop, hx]; go_simp
theorem run_load25 {a : Act} {w : World} {o : Oper} {x : Operand} {d : Nat} {v0 v1 v2 : Value} (hop : o.op = .load 25 x) (hx : a.eval x = .pointer (some ⟨d, 0, none⟩)) (hb : Blk w d [v0, v1, v2] 25) : (execOp a.eval o).run Try.prog w = .ok (.value (.agg #[v0, v1, v2])) w := by
  have k0 : w.cell? ⟨d, 0, none⟩ = some v0 := hb.cell 0
  have k1 : w.cell? ⟨d, 1, none⟩ = some v1 := hb.cell 1
  have k2 : w.cell? ⟨d, 2, none⟩ = some v2 := hb.cell 2
  simp only [execOp, hop, hx]; go_simp
theorem run_call61 {a : Act} {w : World} {o : Oper} {x : Operand} {u : Value} (hop : o.op = .call { callee := .value (.func 61), args := #[x], argTypes := #[3] }) (hx : a.eval x = u) : (execOp a.eval o).run Try.prog w = .ok (.enter 61 #[u]) w := by
  simp only [execOp, hop]
  rw [← hx]
  go_simp
theorem run_call37 {a : Act} {w : World} {o : Oper} {x y : Operand} {u v : Value} (hop : o.op = .call { callee := .value (.func 37), args := #[x, y], argTypes := #[85, 4] }) (hx : a.eval x = u) (hy : a.eval y = v) : (execOp a.eval o).run Try.prog w = .ok (.enter 37 #[u, v]) w := by
  simp only [execOp, hop]
  rw [← hx, ← hy]
  go_simp
theorem run_gtr {a : Act} {w : World} {o : Oper} {x y : Operand} {p q : Int} {c : Bool} (hop : o.op = .binOp .gtr 3 x y 3) (hx : a.eval x = .int .i64 p) (hy : a.eval y = .int .i64 q) (hc : decide (q < p) = c) : (execOp a.eval o).run Try.prog w = .ok (.value (.bool c)) w := by
  subst hc
  simp only [execOp, hop, hx, hy]; go_simp
theorem run_geq {a : Act} {w : World} {o : Oper} {x y : Operand} {p q : Int} {c : Bool} (hop : o.op = .binOp .geq 3 x y 3) (hx : a.eval x = .int .i64 p) (hy : a.eval y = .int .i64 q) (hc : decide (q ≤ p) = c) : (execOp a.eval o).run Try.prog w = .ok (.value (.bool c)) w := by
  subst hc
  simp only [execOp, hop, hx, hy]; go_simp
theorem run_eql {a : Act} {w : World} {o : Oper} {x y : Operand} {p q : Int} {c : Bool} (hop : o.op = .binOp .eql 3 x y 3) (hx : a.eval x = .int .i64 p) (hy : a.eval y = .int .i64 q) (hc : (p == q) = c) : (execOp a.eval o).run Try.prog w = .ok (.value (.bool c)) w := by
  subst hc
  simp only [execOp, hop, hx, hy]; go_simp
theorem run_sub1 {a : Act} {w : World} {o : Oper} {x : Operand} {k : Nat} (hop : o.op = .binOp .sub 3 x (.const (.int .i64 1)) 3) (hx : a.eval x = .int .i64 ((k + 1 : Nat) : Int)) (hk : k ≤ 1000000) : (execOp a.eval o).run Try.prog w = .ok (.value (.int .i64 k)) w := by
  have h1 : a.eval (.const (.int .i64 1)) = .int .i64 1 := rfl
  have h2 : IntKind.i64.wrap (((k + 1 : Nat) : Int) - 1) = (k : Int) := by
    rw [show ((k + 1 : Nat) : Int) - 1 = (k : Int) by omega]
    exact wrap_i64 (by omega) (by omega)
  rw [← h2]
  obtain ⟨z, hz⟩ : ∃ z : Int, ((k + 1 : Nat) : Int) = z := ⟨_, rfl⟩
  rw [hz] at hx ⊢
  simp only [execOp, hop, hx, h1]; go_simp
theorem run_ix22 {a : Act} {w : World} {o : Oper} {x y : Operand} {g off n c k : Nat} (hop : o.op = .indexAddr 22 x y) (hx : a.eval x = .slice (some ⟨g, off, none⟩) n c) (hy : a.eval y = .int .i64 k) (hk : k < n) : (execOp a.eval o).run Try.prog w = .ok (.value (.pointer (some ⟨g, off + k * 4, none⟩))) w := by
  have h1 : (0 : Int) ≤ (k : Int) := by omega
  have h2 : (k : Int) < (n : Int) := by omega
  simp only [execOp, hop, hx, hy]; go_simp
theorem run_ix23 {a : Act} {w : World} {o : Oper} {x y : Operand} {g off n c k : Nat} (hop : o.op = .indexAddr 23 x y) (hx : a.eval x = .slice (some ⟨g, off, none⟩) n c) (hy : a.eval y = .int .i64 k) (hk : k < n) : (execOp a.eval o).run Try.prog w = .ok (.value (.pointer (some ⟨g, off + k * 5, none⟩))) w := by
  have h1 : (0 : Int) ≤ (k : Int) := by omega
  have h2 : (k : Int) < (n : Int) := by omega
  simp only [execOp, hop, hx, hy]; go_simp
theorem run_pick {a : Act} {w : World} {o : Oper} {z x y : Operand} {c : Bool} {u v : Value} (hop : o.op = .pick z x y) (hz : a.eval z = .bool c) (hx : a.eval x = u) (hy : a.eval y = v) : (execOp a.eval o).run Try.prog w = .ok (.value (if c = true then u else v)) w := by
  simp only [execOp, hop, hz, hx, hy]
  cases c <;> rfl
end Go.Proofs.Ytdinlaoimpoolaa
