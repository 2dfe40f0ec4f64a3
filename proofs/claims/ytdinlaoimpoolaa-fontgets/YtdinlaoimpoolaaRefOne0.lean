/- The reference's reader: what is fine and what is wrong, as one. -/
import Derived.Test.YtdinlaoimpoolaaRefMust
namespace Go.Proofs.Ytdinlaoimpoolaa
open Go.RowKit

/-- blocks of other types stay -/
def Kp (X X' : World) : Prop := ∀ (b : Nat) (xs : List Value) (t : TypeId), t ≠ 87 → t ≠ 74 → Blk X b xs t → Blk X' b xs t
/-- a reader's blocks are r and mb, whatever is the case -/
theorem bd_blocks {r mb : Nat} {b : ByteArray} {RES : M × ((Int × Nat) ⊕ St)} {W : World} (h : Bd r mb b RES W) : (∃ xs, Blk W r xs 87) ∧ ∃ ys, Blk W mb ys 74 := by
  obtain ⟨i, a, e, m, h1, _⟩ := h
  exact ⟨⟨_, h1.blk⟩, _, h1.mt⟩
theorem kp_of {r mb : Nat} {X X' : World} {L : List Nat} (h : (∃ xs, Blk X r xs 87) ∧ ∃ ys, Blk X mb ys 74) (k : Only L X X') (hL : ∀ q ∈ L, q = r ∨ q = mb) : Kp X X' := by
  obtain ⟨⟨xs, h1⟩, ys, h2⟩ := h
  intro b zs t ht1 ht2 hb
  refine k.blk hb (fun hm => ?_)
  rcases hL b hm with rfl | rfl
  · exact ht1 (hb.same h1).2
  · exact ht2 (hb.same h2).2
/-- fine and to be read, or wrong -/
def TA (r mb : Nat) (b : ByteArray) (RES : M × ((Int × Nat) ⊕ St)) (s : St) (X : World) : Prop := (∃ i m, Ra r mb b RES s X i m) ∨ Bd r mb b RES X
/-- a number was read, or wrong -/
def TP (r mb : Nat) (b : ByteArray) (RES : M × ((Int × Nat) ⊕ St)) (s : St) (n : Nat) (X : World) : Prop := (∃ i m, Pd r mb b RES s n X i m) ∨ (Bd r mb b RES X ∧ n = 0)
theorem TA.blocks {r mb : Nat} {b : ByteArray} {RES : M × ((Int × Nat) ⊕ St)} {s : St} {W : World} (h : TA r mb b RES s W) : (∃ xs, Blk W r xs 87) ∧ ∃ ys, Blk W mb ys 74 := by
  rcases h with ⟨i, m, h⟩ | h
  · exact ⟨⟨_, h.rs.blk⟩, _, h.rs.mt⟩
  · exact bd_blocks h
theorem TP.blocks {r mb : Nat} {b : ByteArray} {RES : M × ((Int × Nat) ⊕ St)} {s : St} {n : Nat} {W : World} (h : TP r mb b RES s n W) : (∃ xs, Blk W r xs 87) ∧ ∃ ys, Blk W mb ys 74 := by
  rcases h with ⟨i, m, h⟩ | h
  · exact ⟨⟨_, h.rs.blk⟩, _, h.rs.mt⟩
  · exact bd_blocks h.1
theorem TA.below {r mb : Nat} {b : ByteArray} {RES : M × ((Int × Nat) ⊕ St)} {s : St} {W W' : World} (h : TA r mb b RES s W) (k : Below W.heap.size W W') : TA r mb b RES s W' := by
  rcases h with ⟨i, m, h⟩ | h
  · exact .inl ⟨i, m, h.below k⟩
  · exact .inr (h.below k)
theorem TP.below {r mb : Nat} {b : ByteArray} {RES : M × ((Int × Nat) ⊕ St)} {s : St} {n : Nat} {W W' : World} (h : TP r mb b RES s n W) (k : Below W.heap.size W W') : TP r mb b RES s n W' := by
  rcases h with ⟨i, m, h⟩ | h
  · exact .inl ⟨i, m, h.below k⟩
  · exact .inr ⟨h.1.below k, h.2⟩
/-- a store into another block -/
theorem RS.set {W : World} {r mb : Nat} {b : ByteArray} {i k fa : Int} {m : M} (h : RS W r mb b i k fa m) {c o : Nat} {xs : List Value} {t : TypeId} (hc : Blk W c xs t) (h1 : t ≠ 87) (h2 : t ≠ 74) (v : Value) : RS (W.setCell ⟨c, o, none⟩ v) r mb b i k fa m :=
  ⟨oth h.blk (blk_ne h.blk hc (Ne.symm h1)), oth h.mt (blk_ne h.mt hc (Ne.symm h2))⟩
theorem TP.set {r mb : Nat} {b : ByteArray} {RES : M × ((Int × Nat) ⊕ St)} {s : St} {n : Nat} {W : World} (h : TP r mb b RES s n W) {c o : Nat} {xs : List Value} {t : TypeId} (hc : Blk W c xs t) (h1 : t ≠ 87) (h2 : t ≠ 74) (v : Value) : TP r mb b RES s n (W.setCell ⟨c, o, none⟩ v) := by
  rcases h with ⟨i, m, h⟩ | ⟨⟨i, a, e, m, hb, hx⟩, hn⟩
  · exact .inl ⟨i, m, h.rs.set hc h1 h2 v, h.ok, h.le, h.pos, h.res, h.sm⟩
  · exact .inr ⟨⟨i, a, e, m, hb.set hc h1 h2 v, hx⟩, hn⟩
theorem number_k (r mb : Nat) (b : ByteArray) (RES : M × ((Int × Nat) ⊕ St)) (s : St) (wide : Nat) (hw : wide = sz s.nx) (h15 : s.nx ≤ 15) (hsz : b.size ≤ 9223372036854775807) (w : World) (h : TA r mb b RES s w) :
    Calls Try.prog 36 #[.pointer (some ⟨r, 0, none⟩), .int .i64 wide] w fun e w' => ∃ n : Nat, e = .returned (.int .i64 n) ∧ n < 4294967296 ∧ Only [r, mb] w w' ∧ Kp w w' ∧ TP r mb b RES s n w' := by
  have hs4 : wide ≤ 4 ∧ 1 ≤ wide := by rw [hw]; exact ⟨by unfold sz; split <;> decide, szn _⟩
  refine (number_any r mb b RES s wide hw hs4.1 hs4.2 hsz w ?_).mono ?_
  · rcases h with ⟨i, m, h⟩ | h
    · exact .inl ⟨i, m, h, fun e => by omega⟩
    · exact .inr h
  · rintro e w' ⟨n, h1, h2, h3, h4⟩
    exact ⟨n, h1, h2, h3, kp_of h.blocks h3 (by intro q hq; simpa using hq), h4⟩
theorem must_k (r mb : Nat) (b : ByteArray) (RES : M × ((Int × Nat) ⊕ St)) (s : St) (n : Nat) (ok : Bool) (w : World) (hx : s.nx ≠ 15) (hsz : b.size ≤ 9223372036854775807) (h : TP r mb b RES s n w) (hok : (∃ i m, Pd r mb b RES s n w i m) → ok = fits (read s (sz s.nx) n) n) :
    Calls Try.prog 37 #[.pointer (some ⟨r, 0, none⟩), .bool ok] w fun e w' => e = .returned (.tuple #[]) ∧ Only [r, mb] w w' ∧ Kp w w' ∧ TA r mb b RES (nxt (read s (sz s.nx) n)) w' := by
  refine (must_st r mb b RES s n ok w hx hsz ?_).mono ?_
  · rcases h with ⟨i, m, h⟩ | h
    · exact .inl ⟨i, m, h, hok ⟨i, m, h⟩⟩
    · exact .inr h.1
  · rintro e w' ⟨h1, h2, h3⟩
    exact ⟨h1, h2.mono (by intro q _ hq; simp at hq ⊢; exact .inl hq), kp_of h.blocks h2 (by intro q hq; simp at hq; exact .inl hq), h3⟩

/-- the state within glyph's first must -/
def OneSt (w : World) (r mb : Nat) (b : ByteArray) (RES : M × ((Int × Nat) ⊕ St)) (s : St) (x0 : Nat) (ok : Bool) (h d : Nat) (fs : List Value) (j : Nat) (X : World) : Prop :=
  Only [r, mb] w X ∧ Blk X h fs 25 ∧ Blk X d [.int .i64 (x0 : Int), .int .i64 0, .int .i64 0, .int .i64 0] 33 ∧ Blk X (h + 1) [.int .i64 0, .int .i64 0, .int .i64 0, .int .i64 0] 33 ∧
  (if j = 0 then TP r mb b RES s x0 X ∧ ((∃ i m, Pd r mb b RES s x0 X i m) → ok = fits (read s (sz s.nx) x0) x0) else TA r mb b RES (nxt (read s (sz s.nx) x0)) X)
theorem oneSt_must {w : World} {r mb : Nat} {b : ByteArray} {RES : M × ((Int × Nat) ⊕ St)} {s : St} {x0 : Nat} {ok : Bool} {h d : Nat} {fs : List Value} {X : World} (hS : OneSt w r mb b RES s x0 ok h d fs 0 X) (hx : s.nx ≠ 15) (hsz : b.size ≤ 9223372036854775807) :
    Calls Try.prog 37 #[.pointer (some ⟨r, 0, none⟩), .bool ok] X fun e X' => e = .returned (.tuple #[]) ∧ OneSt w r mb b RES s x0 ok h d fs 1 X' := by
  obtain ⟨h1, h2, h3, h4, h5⟩ := hS
  rw [if_pos rfl] at h5
  refine (must_k r mb b RES s x0 ok X hx hsz h5.1 h5.2).mono ?_
  rintro e X' ⟨rfl, k1, k2, k3⟩
  exact ⟨rfl, h1.trans k1, k2 _ _ _ (by decide) (by decide) h2, k2 _ _ _ (by decide) (by decide) h3, k2 _ _ _ (by decide) (by decide) h4, by rw [if_neg (by decide)]; exact k3⟩
theorem results39 {W : World} {B : Nat} {a b c d : Int} (hR : Blk W B [.int .i64 a, .int .i64 b, .int .i64 c, .int .i64 d] 33) {tmps : Array Value} (h4 : tmps[4]? = some (.pointer (some ⟨B, 0, none⟩))) :
    (results Try.f39 tmps).run Try.prog W = .ok (.agg #[.int .i64 a, .int .i64 b, .int .i64 c, .int .i64 d]) W := by
  have m0 : W.cell? ⟨B, 0, none⟩ = some (.int .i64 a) := hR.cell 0
  have m1 : W.cell? ⟨B, 1, none⟩ = some (.int .i64 b) := hR.cell 1
  have m2 : W.cell? ⟨B, 2, none⟩ = some (.int .i64 c) := hR.cell 2
  have m3 : W.cell? ⟨B, 3, none⟩ = some (.int .i64 d) := hR.cell 3
  simp [results, Try.results39, go_sem, h4, m0, m1, m2, m3]
end Go.Proofs.Ytdinlaoimpoolaa
