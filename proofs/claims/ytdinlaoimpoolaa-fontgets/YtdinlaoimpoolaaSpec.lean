/- What a font's bytes are, and how they are read, one by one. -/
import Derived.Test.YtdinlaoimpoolaaNew
import Derived.Test.YtdinlaoimpoolaaMeterAll
namespace Go.Proofs.Ytdinlaoimpoolaa
open Go.RowKit

/-- the bytes of a string -/
def bl (s : ByteArray) : List Nat := s.data.toList.map UInt8.toNat
theorem bl_length (s : ByteArray) : (bl s).length = s.size := by simp [bl]
theorem bl_lt (s : ByteArray) : ∀ b ∈ bl s, b < 256 := by
  intro b h
  simp only [bl, List.mem_map] at h
  obtain ⟨x, _, rfl⟩ := h
  exact x.toNat_lt
theorem bl_at (s : ByteArray) (i : Nat) (h : i < s.size) : (bl s)[i]? = some (s[i]'h).toNat := by
  have h' : i < s.data.size := h
  simp only [bl, List.getElem?_map, Array.getElem?_toList, Array.getElem?_eq_getElem h', Option.map_some]
  rfl

/-- k bytes of a number, the highest first -/
def be : Nat → Nat → List Nat
  | 0, _ => []
  | k + 1, n => n / 256 ^ k % 256 :: be k n
/-- a byte more in the sum -/
def wit (s c : Nat) : Nat := ((s ^^^ c) * 16777619) % 4294967296
def sumF (s : Nat) (bs : List Nat) : Nat := bs.foldl wit s
def sumB (bs : List Nat) : Nat := sumF 2166136261 bs

def gb (g : Gl) : List Nat := be 3 g.1.toNat ++ (be 2 g.2.1.toNat ++ (be 2 g.2.2.1.toNat ++ be 2 g.2.2.2.toNat))
def pb (p : Pr) : List Nat := be 3 p.1.toNat ++ (be 3 p.2.1.toNat ++ (if p.2.2.1 = true then be 1 1 ++ be 3 p.2.2.2.1.toNat else be 1 2 ++ be 2 (p.2.2.2.2 + 32768).toNat))
def PF : List Nat := [80, 70, 49]
def body (em : Int) (gs : List Gl) (ps : List Pr) : List Nat := PF ++ (be 2 em.toNat ++ (be 2 gs.length ++ (gs.flatMap gb ++ (be 2 ps.length ++ ps.flatMap pb))))
def fontB (em : Int) (gs : List Gl) (ps : List Pr) : List Nat := body em gs ps ++ be 4 (sumB (body em gs ps))

/-- how many bytes a part takes -/
def sz (k : Nat) : Nat := match k with
  | 0 | 1 | 2 | 12 | 16 => 1
  | 5 | 10 | 11 | 13 => 3
  | 15 => 4
  | _ => 2
/-- a font as far as it is read -/
structure St where
  nx : Nat
  nu : Nat
  bs : Nat
  sm : Nat
  em : Nat
  gs : List Gl
  ps : List Pr
  ng : Nat
  np : Nat
  g : Gl
  p : Pr
def st0 : St := ⟨0, 0, 0, 2166136261, 0, [], [], 0, 0, (0, 0, 0, 0), (0, 0, false, 0, 0)⟩
def aheadG (gs : List Gl) : Gl := gs.getLast?.getD (-1, 0, 0, 0)
def aheadP (ps : List Pr) : Pr := ps.getLast?.getD (-1, 0, false, 0, 0)
def mayK (s : St) (k : Int) : Bool := decide (k ≠ 0) && (decide (k ≤ 16384) && decide (-(min (gotG s.gs s.p.1).2.1 (gotG s.gs s.p.2.1).2.1) ≤ k))
/-- is a number as it must be? -/
def fits (s : St) (n : Nat) : Bool := match s.nx with
  | 0 => decide (n = 80)
  | 1 => decide (n = 70)
  | 2 => decide (n = 49)
  | 3 => decide (1 ≤ n) && decide (n ≤ 16384)
  | 4 => decide (n ≤ 1024)
  | 5 => decide (widthI n ≠ 0) && decide ((aheadG s.gs).1 < (n : Int))
  | 6 | 7 | 8 => decide (n ≤ 16384)
  | 9 => decide (n ≤ 4096)
  | 10 => hasG s.gs n && decide ((aheadP s.ps).1 ≤ (n : Int))
  | 11 => hasG s.gs n && (decide ((aheadP s.ps).1 < s.p.1) || decide ((aheadP s.ps).2.1 < (n : Int)))
  | 12 => decide (n = 1) || decide (n = 2)
  | 13 => hasG s.gs n
  | 14 => mayK s ((n : Int) - 32768)
  | 15 => decide (n = s.sm)
  | _ => false
/-- a number where it belongs -/
def put (s : St) (n : Nat) : St := match s.nx with
  | 3 => { s with em := n }
  | 4 => { s with ng := n }
  | 5 => { s with g := ((n : Int), 0, 0, 0) }
  | 6 => { s with g := (s.g.1, (n : Int), s.g.2.2.1, s.g.2.2.2) }
  | 7 => { s with g := (s.g.1, s.g.2.1, (n : Int), s.g.2.2.2) }
  | 8 => { s with g := (s.g.1, s.g.2.1, s.g.2.2.1, (n : Int)), gs := s.gs ++ [(s.g.1, s.g.2.1, s.g.2.2.1, (n : Int))] }
  | 9 => { s with np := n }
  | 10 => { s with p := ((n : Int), 0, false, 0, 0) }
  | 11 => { s with p := (s.p.1, (n : Int), s.p.2.2.1, s.p.2.2.2.1, s.p.2.2.2.2) }
  | 12 => { s with p := (s.p.1, s.p.2.1, decide (n = 1), s.p.2.2.2.1, s.p.2.2.2.2) }
  | 13 => { s with p := (s.p.1, s.p.2.1, s.p.2.2.1, (n : Int), s.p.2.2.2.2), ps := s.ps ++ [(s.p.1, s.p.2.1, s.p.2.2.1, (n : Int), s.p.2.2.2.2)] }
  | 14 => { s with p := (s.p.1, s.p.2.1, s.p.2.2.1, s.p.2.2.2.1, (n : Int) - 32768), ps := s.ps ++ [(s.p.1, s.p.2.1, s.p.2.2.1, s.p.2.2.2.1, (n : Int) - 32768)] }
  | _ => s
/-- what stands behind a part -/
def after (s : St) : Nat := match s.nx with
  | 4 | 8 => if s.gs.length < s.ng then 5 else 9
  | 9 | 13 | 14 => if s.ps.length < s.np then 10 else 15
  | 12 => if s.p.2.2.1 = true then 13 else 14
  | k => k + 1
/-- a byte read -/
def one (s : St) (c : Nat) : St := { s with nu := s.nu * 256 + c, bs := s.bs + 1, sm := if s.nx = 15 then s.sm else wit s.sm c }
def nxt (s : St) : St := { put s s.nu with nx := after (put s s.nu), nu := 0, bs := 0 }
def tk (s : St) (c : Nat) : Option St := if s.bs + 1 < sz s.nx then some (one s c) else if fits (one s c) (one s c).nu = true then some (nxt (one s c)) else none
def bad (s : St) : Int := if s.nx = 15 then 61 else 60
/-- what is held at the end, cell by cell -/
def holdN : Nat → M → St → M × ((Int × Nat) ⊕ St)
  | 0, m, s => (m, .inr s)
  | k + 1, m, s => if m.holdOk 1 = true then holdN k (m.hold 1) s else (m.hold 1, .inl ((m.hold 1).why, 0))
/-- Get, from place i on -/
def getM (m : M) (s : St) (i : Nat) : List Nat → M × ((Int × Nat) ⊕ St)
  | [] => if s.nx = 16 then holdN (s.gs.length + s.ps.length) m s else (m, .inl (60, i))
  | c :: cs => if m.stepOk 1 = true then (match tk s c with
      | none => (m.step 1, .inl (bad s, i))
      | some s' => getM (m.step 1) s' (i + 1) cs) else (m.step 1, .inl ((m.step 1).why, 0))

/-- of the number that is being read -/
structure Num (s : St) : Prop where
  b : s.bs < sz s.nx
  nu : s.nu < 256 ^ s.bs
/-- what holds while a font is read -/
structure Good (s : St) : Prop where
  n16 : s.nx ≤ 16
  sm : s.sm < 4294967296
  em : 4 ≤ s.nx → 1 ≤ s.em ∧ s.em ≤ 16384
  g0 : s.nx ≤ 4 → s.gs = []
  ng : 5 ≤ s.nx → s.ng ≤ 1024
  gl : 5 ≤ s.nx → s.nx ≤ 8 → s.gs.length < s.ng
  ge : 9 ≤ s.nx → s.gs.length = s.ng
  ok : glOK (-1) s.gs = true
  gr : 6 ≤ s.nx → s.nx ≤ 8 → widthI s.g.1 ≠ 0 ∧ (aheadG s.gs).1 < s.g.1
  gw : 7 ≤ s.nx → s.nx ≤ 8 → 0 ≤ s.g.2.1 ∧ s.g.2.1 ≤ 16384
  gh : s.nx = 8 → 0 ≤ s.g.2.2.1 ∧ s.g.2.2.1 ≤ 16384
  p0 : s.nx ≤ 9 → s.ps = []
  np : 10 ≤ s.nx → s.np ≤ 4096
  pl : 10 ≤ s.nx → s.nx ≤ 14 → s.ps.length < s.np
  pe : 15 ≤ s.nx → s.ps.length = s.np
  pok : prOK s.gs none s.ps = true
  pL : 11 ≤ s.nx → s.nx ≤ 14 → hasG s.gs s.p.1 = true ∧ (aheadP s.ps).1 ≤ s.p.1
  pR : 12 ≤ s.nx → s.nx ≤ 14 → hasG s.gs s.p.2.1 = true ∧ ((aheadP s.ps).1 < s.p.1 ∨ (aheadP s.ps).2.1 < s.p.2.1)
  pz : 11 ≤ s.nx → s.nx ≤ 14 → s.p.2.2.2.1 = 0 ∧ s.p.2.2.2.2 = 0
  pi : s.nx = 13 → s.p.2.2.1 = true
  pj : s.nx = 14 → s.p.2.2.1 = false
end Go.Proofs.Ytdinlaoimpoolaa
