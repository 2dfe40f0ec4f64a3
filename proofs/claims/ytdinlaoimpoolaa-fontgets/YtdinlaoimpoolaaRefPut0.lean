/- What the reference's Put leans on. -/
import Derived.Test.YtdinlaoimpoolaaChainAll
import Derived.Test.YtdinlaoimpoolaaRefLaidAll
import Derived.Test.YtdinlaoimpoolaaRefNew
namespace Go.Proofs.Ytdinlaoimpoolaa
open Go.RowKit

theorem run_fa33_0 {a : Act} {w : World} {o : Oper} {x : Operand} {d : Nat} (hop : o.op = .fieldAddr 33 x 0) (hx : a.eval x = .pointer (some ⟨d, 0, none⟩)) : (execOp a.eval o).run Try.prog w = .ok (.value (.pointer (some ⟨d, 0, none⟩))) w := by
  simp only [execOp, hop, hx]; go_simp
theorem run_fa33_1 {a : Act} {w : World} {o : Oper} {x : Operand} {d : Nat} (hop : o.op = .fieldAddr 33 x 1) (hx : a.eval x = .pointer (some ⟨d, 0, none⟩)) : (execOp a.eval o).run Try.prog w = .ok (.value (.pointer (some ⟨d, 1, none⟩))) w := by
  simp only [execOp, hop, hx]; go_simp
theorem run_fa33_2 {a : Act} {w : World} {o : Oper} {x : Operand} {d : Nat} (hop : o.op = .fieldAddr 33 x 2) (hx : a.eval x = .pointer (some ⟨d, 0, none⟩)) : (execOp a.eval o).run Try.prog w = .ok (.value (.pointer (some ⟨d, 2, none⟩))) w := by
  simp only [execOp, hop, hx]; go_simp
theorem run_fa33_3 {a : Act} {w : World} {o : Oper} {x : Operand} {d : Nat} (hop : o.op = .fieldAddr 33 x 3) (hx : a.eval x = .pointer (some ⟨d, 0, none⟩)) : (execOp a.eval o).run Try.prog w = .ok (.value (.pointer (some ⟨d, 3, none⟩))) w := by
  simp only [execOp, hop, hx]; go_simp
theorem run_fa35_0 {a : Act} {w : World} {o : Oper} {x : Operand} {d : Nat} (hop : o.op = .fieldAddr 35 x 0) (hx : a.eval x = .pointer (some ⟨d, 0, none⟩)) : (execOp a.eval o).run Try.prog w = .ok (.value (.pointer (some ⟨d, 0, none⟩))) w := by
  simp only [execOp, hop, hx]; go_simp
theorem run_fa35_1 {a : Act} {w : World} {o : Oper} {x : Operand} {d : Nat} (hop : o.op = .fieldAddr 35 x 1) (hx : a.eval x = .pointer (some ⟨d, 0, none⟩)) : (execOp a.eval o).run Try.prog w = .ok (.value (.pointer (some ⟨d, 1, none⟩))) w := by
  simp only [execOp, hop, hx]; go_simp
theorem run_fa35_3 {a : Act} {w : World} {o : Oper} {x : Operand} {d : Nat} (hop : o.op = .fieldAddr 35 x 3) (hx : a.eval x = .pointer (some ⟨d, 0, none⟩)) : (execOp a.eval o).run Try.prog w = .ok (.value (.pointer (some ⟨d, 3, none⟩))) w := by
  simp only [execOp, hop, hx]; go_simp
theorem run_fa35_4 {a : Act} {w : World} {o : Oper} {x : Operand} {d : Nat} (hop : o.op = .fieldAddr 35 x 4) (hx : a.eval x = .pointer (some ⟨d, 0, none⟩)) : (execOp a.eval o).run Try.prog w = .ok (.value (.pointer (some ⟨d, 4, none⟩))) w := by
  simp only [execOp, hop, hx]; go_simp
theorem run_load3 {a : Act} {w : World} {o : Oper} {x : Operand} {d i : Nat} {v : Value} (hop : o.op = .load 3 x) (hx : a.eval x = .pointer (some ⟨d, i, none⟩)) (hc : w.cell? ⟨d, i, none⟩ = some v) : (execOp a.eval o).run Try.prog w = .ok (.value v) w := by
  simp only [execOp, hop, hx]; go_simp
theorem run_kern {a : Act} {w : World} {o : Oper} {x : Operand} {z : Int} {n : Nat} (hop : o.op = .binOp .add 3 x (.const (.int .i64 32768)) 3) (hx : a.eval x = .int .i64 z) (hz : z + 32768 = (n : Int)) (hn : n ≤ 4294967295) : (execOp a.eval o).run Try.prog w = .ok (.value (.int .i64 n)) w := by
  have h1 : a.eval (.const (.int .i64 32768)) = .int .i64 32768 := rfl
  have h2 : IntKind.i64.wrap (z + 32768) = (n : Int) := by
    simp only [IntKind.wrap, IntKind.bits, IntKind.signed]
    simp
    omega
  rw [← h2]
  simp only [execOp, hop, hx, h1]
  go_simp
theorem run_call27 {a : Act} {w : World} {o : Oper} {x y : Operand} {u v k : Value} (hop : o.op = .call { callee := .value (.func 27), args := #[x, y, .const k], argTypes := #[56, 3, 3] }) (hx : a.eval x = u) (hy : a.eval y = v) : (execOp a.eval o).run Try.prog w = .ok (.enter 27 #[u, v, k]) w := by
  have hk : a.eval (.const k) = k := rfl
  simp only [execOp, hop]
  rw [← hx, ← hy]
  go_simp

/-- an owned row of bytes -/
def Rw (h : Nat) (X : World) (v : Value) (bs : List Nat) : Prop := X.ownsRow h 5 1 v bs.length (u8s bs)
theorem laid_rw (h n k : Nat) (v : Value) (bs : List Nat) (X : World) (hw : Rw h X v bs) (hl : bs.length ≤ 1000000) (hn : n ≤ 4294967295) (hk : k ≤ 4) (hb : h ≤ X.heap.size) :
    Calls Try.prog 27 #[v, .int .i64 n, .int .i64 k] X fun e w' => ∃ v', e = .returned v' ∧ Rw h w' v' (bs ++ be k n) ∧ X.grownBy w' v.ownBlock :=
  (laid_any h bs.length n k v bs X rfl hl hn hk hb hw).mono fun e w' ⟨v', h1, h2, h3⟩ => ⟨v', h1, by unfold Rw; rw [List.length_append, be_len]; exact h2, h3⟩
theorem below_rw {w X X' : World} {h : Nat} {v : Value} {bs : List Nat} (hb : Below h w X) (hw : Rw h X v bs) (hg : X.grownBy X' v.ownBlock) (hh : h ≤ X.heap.size) : Below h w X' :=
  ⟨hg.os.trans hb.os, hg.tape.trans hb.tape, hg.output.trans hb.output, Nat.le_trans hb.size hg.size, fun k hk => (hg.block k (Nat.lt_of_lt_of_le hk hh) (fun e => by
    have := (hw.lt k e.symm).1
    omega)).trans (hb.block k hk)⟩
/-- the font and what is being laid -/
structure Pk (w : World) (h d : Nat) (fs xs : List Value) (t : TypeId) (X : World) : Prop where
  bel : Below h w X
  fb : Blk X h fs 25
  gb : Blk X d xs t
theorem Pk.next {w X X' : World} {h d : Nat} {fs xs : List Value} {t : TypeId} {v : Value} {bs : List Nat} (hp : Pk w h d fs xs t X) (ht : 5 ≠ t) (hw : Rw h X v bs) (hg : X.grownBy X' v.ownBlock) : Pk w h d fs xs t X' :=
  ⟨below_rw hp.bel hw hg (Nat.le_of_lt hp.fb.lt), blk_grown hp.fb hg (own_ne hw hp.fb (by decide)), blk_grown hp.gb hg (own_ne hw hp.gb ht)⟩
theorem Pk.drew {w X : World} {h d : Nat} {fs xs : List Value} {t : TypeId} (hp : Pk w h d fs xs t X) : Pk w h d fs xs t X.drew := ⟨hp.bel.drew, hp.fb, hp.gb⟩
/-- a row of bytes as a string -/
theorem conv_rw {h : Nat} {X : World} {v : Value} {bs : List Nat} (hw : Rw h X v bs) (h256 : ∀ b ∈ bs, b < 256) (h0 : bs.length ≠ 0) :
    ∃ ad c, v = .slice ad bs.length c ∧ Sl X ad bs.length (u8s bs) ∧ (convert 56 9 (.slice ad bs.length c)).run Try.prog X = .ok (.string (strN bs)) X := by
  obtain ⟨ad, c, rfl, hsl, _⟩ := row_reads hw
  refine ⟨ad, c, rfl, hsl, ?_⟩
  obtain ⟨b, off, rfl, hb, hat⟩ := hsl h0
  have := run_convert_bytes_back (P := Try.prog) X 56 9 5 ⟨b, off, none⟩ c (bs.map UInt8.ofNat) Try.underlying56 Try.underlying5 Try.underlying9 (fun j hj => by
    rw [Addr.add_lit]
    have hj' : j < bs.length := by simpa using hj
    refine (hat j _ (u8s_at (List.getElem?_eq_getElem hj'))).trans ?_
    have := h256 _ (List.getElem_mem hj')
    rw [List.getElem_map, UInt8.toNat_ofNat']
    congr 2
    omega)
  rw [List.length_map] at this
  exact this
end Go.Proofs.Ytdinlaoimpoolaa
