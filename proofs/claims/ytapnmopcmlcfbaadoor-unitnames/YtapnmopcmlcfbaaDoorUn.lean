/- The program's table of units. -/
import Derived.Test.YtapnmopcmlcfbaaDoorNear
import Derived.Deep.MidRow
namespace Go.Proofs.YtapnmopcmlcfbaaDoor
open Go.RowKit

def uT0 : ByteArray := { data := #[] }
def uT1 : ByteArray := { data := #[112, 116] }
def uT2 : ByteArray := { data := #[105, 110] }
def uT3 : ByteArray := { data := #[109, 109] }
def uT4 : ByteArray := { data := #[115, 112] }
def uT5 : ByteArray := { data := #[101, 109] }
/-- the program's table of units lies in its place, and the library's table of tens is one -/
structure Un (w : World) : Prop where
  s0 : w.cell? ⟨0, 0, none⟩ = some (.string uT0)
  n0 : w.cell? ⟨0, 1, none⟩ = some (.int .u64 65536)
  d0 : w.cell? ⟨0, 2, none⟩ = some (.int .u64 1)
  s1 : w.cell? ⟨0, 3, none⟩ = some (.string uT1)
  n1 : w.cell? ⟨0, 4, none⟩ = some (.int .u64 65536)
  d1 : w.cell? ⟨0, 5, none⟩ = some (.int .u64 1)
  s2 : w.cell? ⟨0, 6, none⟩ = some (.string uT2)
  n2 : w.cell? ⟨0, 7, none⟩ = some (.int .u64 4718592)
  d2 : w.cell? ⟨0, 8, none⟩ = some (.int .u64 1)
  s3 : w.cell? ⟨0, 9, none⟩ = some (.string uT3)
  n3 : w.cell? ⟨0, 10, none⟩ = some (.int .u64 23592960)
  d3 : w.cell? ⟨0, 11, none⟩ = some (.int .u64 127)
  s4 : w.cell? ⟨0, 12, none⟩ = some (.string uT4)
  n4 : w.cell? ⟨0, 13, none⟩ = some (.int .u64 1)
  d4 : w.cell? ⟨0, 14, none⟩ = some (.int .u64 1)
  s5 : w.cell? ⟨0, 15, none⟩ = some (.string uT5)
  n5 : w.cell? ⟨0, 16, none⟩ = some (.int .u64 0)
  d5 : w.cell? ⟨0, 17, none⟩ = some (.int .u64 1)
theorem Un.size {w : World} (h : Un w) : 0 < w.heap.size := by
  have := h.s0
  rcases Nat.lt_or_ge 0 w.heap.size with g | g
  · exact g
  · simp [World.cell?, Array.getElem?_eq_none g] at this
theorem Un.only {L : List Nat} {w w' : World} (h : Un w) (k : Only L w w') (hL : 0 ∉ L) : Un w' := by
  have hb : w'.heap[0]? = w.heap[0]? := k.block 0 h.size hL
  exact ⟨(World.cell?_of_block (a := ⟨0, 0, none⟩) hb).trans h.s0, (World.cell?_of_block (a := ⟨0, 1, none⟩) hb).trans h.n0, (World.cell?_of_block (a := ⟨0, 2, none⟩) hb).trans h.d0, (World.cell?_of_block (a := ⟨0, 3, none⟩) hb).trans h.s1, (World.cell?_of_block (a := ⟨0, 4, none⟩) hb).trans h.n1, (World.cell?_of_block (a := ⟨0, 5, none⟩) hb).trans h.d1, (World.cell?_of_block (a := ⟨0, 6, none⟩) hb).trans h.s2, (World.cell?_of_block (a := ⟨0, 7, none⟩) hb).trans h.n2, (World.cell?_of_block (a := ⟨0, 8, none⟩) hb).trans h.d2, (World.cell?_of_block (a := ⟨0, 9, none⟩) hb).trans h.s3, (World.cell?_of_block (a := ⟨0, 10, none⟩) hb).trans h.n3, (World.cell?_of_block (a := ⟨0, 11, none⟩) hb).trans h.d3, (World.cell?_of_block (a := ⟨0, 12, none⟩) hb).trans h.s4, (World.cell?_of_block (a := ⟨0, 13, none⟩) hb).trans h.n4, (World.cell?_of_block (a := ⟨0, 14, none⟩) hb).trans h.d4, (World.cell?_of_block (a := ⟨0, 15, none⟩) hb).trans h.s5, (World.cell?_of_block (a := ⟨0, 16, none⟩) hb).trans h.n5, (World.cell?_of_block (a := ⟨0, 17, none⟩) hb).trans h.d5⟩
theorem uIdx0 (w : World) : (Instr.index 58 (.agg #[.string uT0, .int .u64 65536, .int .u64 1, .string uT1, .int .u64 65536, .int .u64 1, .string uT2, .int .u64 4718592, .int .u64 1, .string uT3, .int .u64 23592960, .int .u64 127, .string uT4, .int .u64 1, .int .u64 1, .string uT5, .int .u64 0, .int .u64 1]) (.int .i64 0)).run Tryd.prog w = .ok (.agg #[.string uT0, .int .u64 65536, .int .u64 1]) w := by kernel_rfl
theorem uIdx1 (w : World) : (Instr.index 58 (.agg #[.string uT0, .int .u64 65536, .int .u64 1, .string uT1, .int .u64 65536, .int .u64 1, .string uT2, .int .u64 4718592, .int .u64 1, .string uT3, .int .u64 23592960, .int .u64 127, .string uT4, .int .u64 1, .int .u64 1, .string uT5, .int .u64 0, .int .u64 1]) (.int .i64 1)).run Tryd.prog w = .ok (.agg #[.string uT1, .int .u64 65536, .int .u64 1]) w := by kernel_rfl
theorem uIdx2 (w : World) : (Instr.index 58 (.agg #[.string uT0, .int .u64 65536, .int .u64 1, .string uT1, .int .u64 65536, .int .u64 1, .string uT2, .int .u64 4718592, .int .u64 1, .string uT3, .int .u64 23592960, .int .u64 127, .string uT4, .int .u64 1, .int .u64 1, .string uT5, .int .u64 0, .int .u64 1]) (.int .i64 2)).run Tryd.prog w = .ok (.agg #[.string uT2, .int .u64 4718592, .int .u64 1]) w := by kernel_rfl
theorem uIdx3 (w : World) : (Instr.index 58 (.agg #[.string uT0, .int .u64 65536, .int .u64 1, .string uT1, .int .u64 65536, .int .u64 1, .string uT2, .int .u64 4718592, .int .u64 1, .string uT3, .int .u64 23592960, .int .u64 127, .string uT4, .int .u64 1, .int .u64 1, .string uT5, .int .u64 0, .int .u64 1]) (.int .i64 3)).run Tryd.prog w = .ok (.agg #[.string uT3, .int .u64 23592960, .int .u64 127]) w := by kernel_rfl
theorem uIdx4 (w : World) : (Instr.index 58 (.agg #[.string uT0, .int .u64 65536, .int .u64 1, .string uT1, .int .u64 65536, .int .u64 1, .string uT2, .int .u64 4718592, .int .u64 1, .string uT3, .int .u64 23592960, .int .u64 127, .string uT4, .int .u64 1, .int .u64 1, .string uT5, .int .u64 0, .int .u64 1]) (.int .i64 4)).run Tryd.prog w = .ok (.agg #[.string uT4, .int .u64 1, .int .u64 1]) w := by kernel_rfl
theorem uIdx5 (w : World) : (Instr.index 58 (.agg #[.string uT0, .int .u64 65536, .int .u64 1, .string uT1, .int .u64 65536, .int .u64 1, .string uT2, .int .u64 4718592, .int .u64 1, .string uT3, .int .u64 23592960, .int .u64 127, .string uT4, .int .u64 1, .int .u64 1, .string uT5, .int .u64 0, .int .u64 1]) (.int .i64 5)).run Tryd.prog w = .ok (.agg #[.string uT5, .int .u64 0, .int .u64 1]) w := by kernel_rfl
def unCells : List Value := [.string uT0, .int .u64 65536, .int .u64 1, .string uT1, .int .u64 65536, .int .u64 1, .string uT2, .int .u64 4718592, .int .u64 1, .string uT3, .int .u64 23592960, .int .u64 127, .string uT4, .int .u64 1, .int .u64 1, .string uT5, .int .u64 0, .int .u64 1]
theorem load_units {W : World} (h : Un W) : (Instr.loadAt 58 (.pointer (some ⟨0, 0, none⟩))).run Tryd.prog W = .ok (.agg #[.string uT0, .int .u64 65536, .int .u64 1, .string uT1, .int .u64 65536, .int .u64 1, .string uT2, .int .u64 4718592, .int .u64 1, .string uT3, .int .u64 23592960, .int .u64 127, .string uT4, .int .u64 1, .int .u64 1, .string uT5, .int .u64 0, .int .u64 1]) W := by
  have := Go.run_loadAt_mid (P := Tryd.prog) W 0 0 58 unCells _ (fun j v hv => ?_) Tryd.underlying58 rfl (by kernel_rfl)
  · exact this
  · rw [Nat.zero_add]
    match j, hv with
    | 0, hv => obtain rfl := Option.some.inj hv; exact h.s0
    | 1, hv => obtain rfl := Option.some.inj hv; exact h.n0
    | 2, hv => obtain rfl := Option.some.inj hv; exact h.d0
    | 3, hv => obtain rfl := Option.some.inj hv; exact h.s1
    | 4, hv => obtain rfl := Option.some.inj hv; exact h.n1
    | 5, hv => obtain rfl := Option.some.inj hv; exact h.d1
    | 6, hv => obtain rfl := Option.some.inj hv; exact h.s2
    | 7, hv => obtain rfl := Option.some.inj hv; exact h.n2
    | 8, hv => obtain rfl := Option.some.inj hv; exact h.d2
    | 9, hv => obtain rfl := Option.some.inj hv; exact h.s3
    | 10, hv => obtain rfl := Option.some.inj hv; exact h.n3
    | 11, hv => obtain rfl := Option.some.inj hv; exact h.d3
    | 12, hv => obtain rfl := Option.some.inj hv; exact h.s4
    | 13, hv => obtain rfl := Option.some.inj hv; exact h.n4
    | 14, hv => obtain rfl := Option.some.inj hv; exact h.d4
    | 15, hv => obtain rfl := Option.some.inj hv; exact h.s5
    | 16, hv => obtain rfl := Option.some.inj hv; exact h.n5
    | 17, hv => obtain rfl := Option.some.inj hv; exact h.d5
    | j + 18, hv => rw [show unCells[j + 18]? = none from List.getElem?_eq_none (by show 18 ≤ j + 18; omega)] at hv; cases hv
/-- a name's unit: em's size is 0 yet -/
def mea (l : List Nat) : Option (Nat × Nat) :=
  if l = [] ∨ l = [112, 116] then some (65536, 1) else if l = [105, 110] then some (4718592, 1) else if l = [109, 109] then some (23592960, 127)
  else if l = [115, 112] then some (1, 1) else if l = [101, 109] then some (0, 1) else none
def meaV (s : ByteArray) : Option (Nat × Nat) → Value
  | none => .tuple #[.agg #[.string { data := #[] }, .int .u64 0, .int .u64 0], .bool false]
  | some (n, d) => .tuple #[.agg #[.string s, .int .u64 n, .int .u64 d], .bool true]
theorem bl_inj {s t : ByteArray} (h : bl s = bl t) : s = t := by
  have h2 : s.data.toList = t.data.toList := by
    unfold bl at h
    exact (List.map_inj_right (fun a b e => UInt8.toNat_inj.1 e)).1 h
  cases s; cases t; congr 1; exact Array.ext' h2
theorem name_ways (s : ByteArray) : s = uT0 ∨ s = uT1 ∨ s = uT2 ∨ s = uT3 ∨ s = uT4 ∨ s = uT5 ∨ (mea (bl s) = none ∧ s ≠ uT0 ∧ s ≠ uT1 ∧ s ≠ uT2 ∧ s ≠ uT3 ∧ s ≠ uT4 ∧ s ≠ uT5) := by
  by_cases h0 : s = uT0
  · exact .inl h0
  by_cases h1 : s = uT1
  · exact .inr (.inl h1)
  by_cases h2 : s = uT2
  · exact .inr (.inr (.inl h2))
  by_cases h3 : s = uT3
  · exact .inr (.inr (.inr (.inl h3)))
  by_cases h4 : s = uT4
  · exact .inr (.inr (.inr (.inr (.inl h4))))
  by_cases h5 : s = uT5
  · exact .inr (.inr (.inr (.inr (.inr (.inl h5)))))
  refine .inr (.inr (.inr (.inr (.inr (.inr ⟨?_, h0, h1, h2, h3, h4, h5⟩)))))
  have g : ∀ t : ByteArray, s ≠ t → bl s ≠ bl t := fun t h e => h (bl_inj e)
  have g0 : bl s ≠ [] := g uT0 h0
  have g1 : bl s ≠ [112, 116] := g uT1 h1
  have g2 : bl s ≠ [105, 110] := g uT2 h2
  have g3 : bl s ≠ [109, 109] := g uT3 h3
  have g4 : bl s ≠ [115, 112] := g uT4 h4
  have g5 : bl s ≠ [101, 109] := g uT5 h5
  unfold mea
  rw [if_neg (by simp [g0, g1]), if_neg g2, if_neg g3, if_neg g4, if_neg g5]

end Go.Proofs.YtapnmopcmlcfbaaDoor
