/- The reference reads a pair: its two drawn regions' state. -/
import Derived.Test.YtdinlaoimpoolaaRefTell
namespace Go.Proofs.Ytdinlaoimpoolaa
open Go.RowKit

theorem TAF.imp {F F' : Prop} {r mb : Nat} {b : ByteArray} {RES : M × ((Int × Nat) ⊕ St)} {s : St} {W : World} (h : TAF F r mb b RES s W) (k : F → F') : TAF F' r mb b RES s W := h.elim (fun q => .inl ⟨k q.1, q.2⟩) .inr
def PairSt (w : World) (r mb : Nat) (b : ByteArray) (RES : M × ((Int × Nat) ⊕ St)) (F : Prop) (s : St) (x : Nat) (ok : Bool) (h d : Nat) (fs xs : List Value) (j : Nat) (X : World) : Prop :=
  Only [r, mb] w X ∧ Blk X h fs 25 ∧ Blk X d xs 35 ∧ Blk X (h + 1) [.int .i64 0, .int .i64 0, .bool false, .int .i64 0, .int .i64 0] 35 ∧
  (if j = 0 then TPF F r mb b RES s x X ∧ (F → ok = fits (read s (sz s.nx) x) x) else TAF (F ∧ ok = true) r mb b RES (g1 s x) X)
theorem pairSt_must {w : World} {r mb : Nat} {b : ByteArray} {RES : M × ((Int × Nat) ⊕ St)} {F : Prop} {s : St} {x : Nat} {ok : Bool} {h d : Nat} {fs xs : List Value} {X : World} (hS : PairSt w r mb b RES F s x ok h d fs xs 0 X) (hx : s.nx ≠ 15) (hsz : b.size ≤ 9223372036854775807) :
    Calls Try.prog 37 #[.pointer (some ⟨r, 0, none⟩), .bool ok] X fun e X' => e = .returned (.tuple #[]) ∧ PairSt w r mb b RES F s x ok h d fs xs 1 X' := by
  obtain ⟨h1, h2, h3, h4, h5⟩ := hS
  rw [if_pos rfl] at h5
  refine (must_f F r mb b RES s x ok X hx hsz h5.1 h5.2).mono ?_
  rintro e X' ⟨rfl, k1, k2, k3⟩
  exact ⟨rfl, h1.trans k1, k2 _ _ _ (by decide) (by decide) h2, k2 _ _ _ (by decide) (by decide) h3, k2 _ _ _ (by decide) (by decide) h4, by rw [if_neg (by decide)]; exact k3⟩
theorem Sl.pair' {W : World} {ad : Option Addr} {n : Nat} {ps : List Pr} (h : Sl W ad n (ps.flatMap cp)) (hn : ps.length = n) {i : Nat} {p : Pr} (hi : ps[i]? = some p) : ∃ b off, ad = some ⟨b, off, none⟩ ∧ b < W.heap.size ∧ PAt W b (off + i * 5) p := by
  subst hn
  exact h.pair hi
theorem results40 {W : World} {B : Nat} {a b d e : Int} {c : Bool} (hR : Blk W B [.int .i64 a, .int .i64 b, .bool c, .int .i64 d, .int .i64 e] 35) {tmps : Array Value} (h4 : tmps[4]? = some (.pointer (some ⟨B, 0, none⟩))) :
    (results Try.f40 tmps).run Try.prog W = .ok (.agg #[.int .i64 a, .int .i64 b, .bool c, .int .i64 d, .int .i64 e]) W := by
  have m0 : W.cell? ⟨B, 0, none⟩ = some (.int .i64 a) := hR.cell 0
  have m1 : W.cell? ⟨B, 1, none⟩ = some (.int .i64 b) := hR.cell 1
  have m2 : W.cell? ⟨B, 2, none⟩ = some (.bool c) := hR.cell 2
  have m3 : W.cell? ⟨B, 3, none⟩ = some (.int .i64 d) := hR.cell 3
  have m4 : W.cell? ⟨B, 4, none⟩ = some (.int .i64 e) := hR.cell 4
  simp [results, Try.results40, go_sem, h4, m0, m1, m2, m3, m4]
/-- what pair answers -/
def PairPost (r mb : Nat) (b : ByteArray) (RES : M × ((Int × Nat) ⊕ St)) (s : St) (w : World) (e : Ending) (w' : World) : Prop := ∃ (p : Pr) (s' : St), e = .returned (.agg (cp p).toArray) ∧ Only [r, mb] w w' ∧ Kp w w' ∧ TA r mb b RES s' w' ∧
  s'.nu = 0 ∧ s'.gs = s.gs ∧ s'.ps = s.ps ++ [p] ∧ s'.em = s.em ∧ s'.ng = s.ng ∧ s'.np = s.np ∧ s'.nx = (if s.ps.length + 1 < s.np then 10 else 15)
theorem PairPost.of {r mb : Nat} {b : ByteArray} {RES : M × ((Int × Nat) ⊕ St)} {s : St} {w w' : World} (x0 x1 : Int) (x2 : Bool) (x3 x4 : Int) (s' : St) (h2 : Only [r, mb] w w') (h3 : Kp w w') (h4 : TA r mb b RES s' w') (h5 : s'.nu = 0) (h6 : s'.gs = s.gs) (h7 : s'.ps = s.ps ++ [(x0, x1, x2, x3, x4)]) (h8 : s'.em = s.em) (h9 : s'.ng = s.ng) (h10 : s'.np = s.np) (h11 : s'.nx = (if s.ps.length + 1 < s.np then 10 else 15)) :
    PairPost r mb b RES s w (.returned (.agg #[.int .i64 x0, .int .i64 x1, .bool x2, .int .i64 x3, .int .i64 x4])) w' := ⟨(x0, x1, x2, x3, x4), s', rfl, h2, h3, h4, h5, h6, h7, h8, h9, h10, h11⟩
/-- what glyph's number tells -/
theorem gl_ge {gs : List Gl} {r z : Int} (h : (hasG gs r = false ∧ z = -1) ∨ (hasG gs r = true ∧ ∃ k : Nat, z = k ∧ gs[k]? = some (gotG gs r))) : decide (0 ≤ z) = hasG gs r := by
  rcases h with ⟨h1, rfl⟩ | ⟨h1, k, rfl, _⟩
  · rw [h1]; rfl
  · rw [h1]; simp
end Go.Proofs.Ytdinlaoimpoolaa
