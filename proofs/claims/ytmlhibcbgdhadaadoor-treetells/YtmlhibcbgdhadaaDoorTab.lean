/- The tables that the program reads: the kinds of nodes, the entities, the tens. -/
import Derived.Test.YtmlhibcbgdhadaaDoorRow
import Derived.Test.YtmlhibcbgdhadaaDoorNd
import Derived.Lib.ItoaNum
namespace Go.Proofs.YtmlhibcbgdhadaaDoor
open Go.RowKit


def e0T : ByteArray := { data := #[38, 108, 116, 59] }
def e1T : ByteArray := { data := #[38, 103, 116, 59] }
def e2T : ByteArray := { data := #[38, 97, 109, 112, 59] }
def e3T : ByteArray := { data := #[38, 113, 117, 111, 116, 59] }
def e4T : ByteArray := { data := #[38, 115, 104, 121, 59] }
def e5T : ByteArray := { data := #[38, 110, 98, 115, 112, 59] }
def entA : List (Int × ByteArray) := [(60, e0T), (62, e1T), (38, e2T), (34, e3T), (173, e4T), (160, e5T)]
/-- the library's tables and the program's own -/
structure Tc (w : World) : Prop where
  sz : 5 ≤ w.heap.size
  n0 : w.cell? ⟨1, 0, none⟩ = some (.int .i64 60)
  s0 : w.cell? ⟨1, 1, none⟩ = some (.string e0T)
  n1 : w.cell? ⟨1, 2, none⟩ = some (.int .i64 62)
  s1 : w.cell? ⟨1, 3, none⟩ = some (.string e1T)
  n2 : w.cell? ⟨1, 4, none⟩ = some (.int .i64 38)
  s2 : w.cell? ⟨1, 5, none⟩ = some (.string e2T)
  n3 : w.cell? ⟨1, 6, none⟩ = some (.int .i64 34)
  s3 : w.cell? ⟨1, 7, none⟩ = some (.string e3T)
  n4 : w.cell? ⟨1, 8, none⟩ = some (.int .i64 173)
  s4 : w.cell? ⟨1, 9, none⟩ = some (.string e4T)
  n5 : w.cell? ⟨1, 10, none⟩ = some (.int .i64 160)
  s5 : w.cell? ⟨1, 11, none⟩ = some (.string e5T)
theorem entIdx0 (w : World) : (Instr.index 95 (.agg #[.int .i64 60, .string e0T, .int .i64 62, .string e1T, .int .i64 38, .string e2T, .int .i64 34, .string e3T, .int .i64 173, .string e4T, .int .i64 160, .string e5T]) (.int .i64 0)).run Tryd.prog w = .ok (.agg #[.int .i64 60, .string e0T]) w := by kernel_rfl
theorem entIdx1 (w : World) : (Instr.index 95 (.agg #[.int .i64 60, .string e0T, .int .i64 62, .string e1T, .int .i64 38, .string e2T, .int .i64 34, .string e3T, .int .i64 173, .string e4T, .int .i64 160, .string e5T]) (.int .i64 1)).run Tryd.prog w = .ok (.agg #[.int .i64 62, .string e1T]) w := by kernel_rfl
theorem entIdx2 (w : World) : (Instr.index 95 (.agg #[.int .i64 60, .string e0T, .int .i64 62, .string e1T, .int .i64 38, .string e2T, .int .i64 34, .string e3T, .int .i64 173, .string e4T, .int .i64 160, .string e5T]) (.int .i64 2)).run Tryd.prog w = .ok (.agg #[.int .i64 38, .string e2T]) w := by kernel_rfl
theorem entIdx3 (w : World) : (Instr.index 95 (.agg #[.int .i64 60, .string e0T, .int .i64 62, .string e1T, .int .i64 38, .string e2T, .int .i64 34, .string e3T, .int .i64 173, .string e4T, .int .i64 160, .string e5T]) (.int .i64 3)).run Tryd.prog w = .ok (.agg #[.int .i64 34, .string e3T]) w := by kernel_rfl
theorem entIdx4 (w : World) : (Instr.index 95 (.agg #[.int .i64 60, .string e0T, .int .i64 62, .string e1T, .int .i64 38, .string e2T, .int .i64 34, .string e3T, .int .i64 173, .string e4T, .int .i64 160, .string e5T]) (.int .i64 4)).run Tryd.prog w = .ok (.agg #[.int .i64 173, .string e4T]) w := by kernel_rfl
theorem entIdx5 (w : World) : (Instr.index 95 (.agg #[.int .i64 60, .string e0T, .int .i64 62, .string e1T, .int .i64 38, .string e2T, .int .i64 34, .string e3T, .int .i64 173, .string e4T, .int .i64 160, .string e5T]) (.int .i64 5)).run Tryd.prog w = .ok (.agg #[.int .i64 160, .string e5T]) w := by kernel_rfl
theorem Tc.only {L : List Nat} {w w' : World} (h : Tc w) (k : Only L w w') (hL : ∀ i ∈ L, 5 ≤ i) : Tc w' := by
  have hs := h.sz
  have hb : w'.heap[1]? = w.heap[1]? := k.block 1 (by omega) (fun hm => by have := hL 1 hm; omega)
  have c : ∀ i, w'.cell? ⟨1, i, none⟩ = w.cell? ⟨1, i, none⟩ := fun i => World.cell?_of_block (a := ⟨1, i, none⟩) hb
  exact ⟨Nat.le_trans hs k.size, (c _).trans h.n0, (c _).trans h.s0, (c _).trans h.n1, (c _).trans h.s1, (c _).trans h.n2, (c _).trans h.s2, (c _).trans h.n3, (c _).trans h.s3, (c _).trans h.n4, (c _).trans h.s4, (c _).trans h.n5, (c _).trans h.s5⟩

theorem Tc.drewN {w : World} (h : Tc w) (n : Nat) : Tc (w.drewN n) := h.only ((Only.refl [] w).drewN n) (by simp)
theorem Tc.alloc {w : World} (h : Tc w) (o : Obj) : Tc (w.alloc o) := h.only ((Only.refl [] w).alloc o) (by simp)
def kN0 : ByteArray := { data := #[] }
def kN1 : ByteArray := { data := #[100, 111, 99] }
def kN2 : ByteArray := { data := #[112] }
def kN3 : ByteArray := { data := #[115] }
/-- what the table of kinds holds: the name, the kinds that bear it, what it may have, what it must -/
def kName (k : Int) : ByteArray := if k = 1 then kN1 else if k = 2 then kN2 else if k = 3 then kN3 else kN0
def kIn (k : Int) : Int := if k = 1 then 0 else if k = 2 then 2 else if k = 3 ∨ k = 4 ∨ k = 5 then 12 else 0
def kMust (k : Int) : Int := if k = 1 then 12 else 0
def kindC (k : Int) : List Value := [.string (kName k), .int .i64 (kIn k), .int .i64 (may k), .int .i64 (kMust k)]
structure Tt (w : World) : Prop where
  tc : Tc w
  tab : Lib.TabIs Tryd.prog w "internal/strconv.uint64pow10" .u64 Lib.pow10Tab
  kd : ∀ k : Nat, 1 ≤ k → k ≤ 5 → ∀ j v, (kindC k)[j]? = some v → w.cell? ⟨0, k * 4 + j, none⟩ = some v
theorem gPow : Tryd.prog.globalNamed "internal/strconv.uint64pow10" = some 2 := by kernel_rfl
theorem Tt.only {L : List Nat} {w w' : World} (h : Tt w) (k : Only L w w') (hL : ∀ i ∈ L, 5 ≤ i) : Tt w' := by
  have hs := h.tc.sz
  refine ⟨h.tc.only k hL, ?_, fun i h1 h2 j v hv => ?_⟩
  · have ht := h.tab
    unfold Lib.TabIs World.var? at ht ⊢
    rw [gPow] at ht ⊢
    simp only [Option.bind_some] at ht ⊢
    rw [k.block 2 (by omega) (fun hm => by have := hL 2 hm; omega)]
    exact ht
  · exact (World.cell?_of_block (a := ⟨0, i * 4 + j, none⟩) (k.block 0 (by omega) (fun hm => by have := hL 0 hm; omega))).trans (h.kd i h1 h2 j v hv)
theorem Tt.still {w w' : World} (h : Tt w) (k : Only [] w w') : Tt w' := h.only k (by simp)
end Go.Proofs.YtmlhibcbgdhadaaDoor
