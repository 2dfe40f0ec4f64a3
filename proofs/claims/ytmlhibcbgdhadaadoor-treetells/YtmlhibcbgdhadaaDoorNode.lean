/- A document's nodes in memory; the small functions over a node. -/
import Derived.Test.YtmlhibcbgdhadaaDoorText
import Derived.Test.YtmlhibcbgdhadaaDoorUnit
namespace Go.Proofs.YtmlhibcbgdhadaaDoor
open Go.RowKit

/-- a slice of n things that lies below block B reads so -/
def SlB (W : World) (B : Nat) (ad : Option Addr) (n : Nat) (cs : List Value) : Prop := n ≠ 0 → ∃ b off, ad = some ⟨b, off, none⟩ ∧ b < B ∧ At W b off cs
theorem SlB.sl {W : World} {B : Nat} {ad : Option Addr} {n : Nat} {cs : List Value} (h : SlB W B ad n cs) : Sl W ad n cs := fun h0 => by
  obtain ⟨b, off, e, -, ha⟩ := h h0
  exact ⟨b, off, e, ha⟩
theorem SlB.mono {W : World} {B C : Nat} {ad : Option Addr} {n : Nat} {cs : List Value} (h : SlB W B ad n cs) (hC : B ≤ C) : SlB W C ad n cs := fun h0 => by
  obtain ⟨b, off, e, hb, ha⟩ := h h0
  exact ⟨b, off, e, by omega, ha⟩
theorem SlB.keep {L : List Nat} {W W' : World} {B : Nat} {ad : Option Addr} {n : Nat} {cs : List Value} (h : SlB W B ad n cs) (k : Only L W W') (hL : ∀ b ∈ L, B ≤ b) : SlB W' B ad n cs := fun h0 => by
  obtain ⟨b, off, e, hb, ha⟩ := h h0
  exact ⟨b, off, e, hb, ha.keep k (fun hm => by have := hL b hm; omega)⟩
theorem Sl.b {W : World} {ad : Option Addr} {n : Nat} {cs : List Value} (h : Sl W ad n cs) : SlB W W.heap.size ad n cs := fun h0 => by
  obtain ⟨b, off, e, ha⟩ := h h0
  exact ⟨b, off, e, ha.1, ha⟩

/-- a node's cells: itself and the slice of its characters -/
def ndc (x : Nd × Value) : List Value := [.int .i64 x.1.kind, .int .i64 x.1.par, .int .i64 x.1.at_, .int .i64 x.1.fin, .int .i64 x.1.has, .string x.1.font, .int .i64 x.1.size, .int .i64 x.1.width, .int .i64 x.1.height, .int .i64 x.1.lead, .int .i64 x.1.skip, .int .i64 x.1.tol, x.2]
theorem ndc_len (x : Nd × Value) : (ndc x).length = 13 := rfl
/-- its numbers are ints -/
def I64 (x : Int) : Prop := -9223372036854775808 ≤ x ∧ x ≤ 9223372036854775807
structure Fit (x : Nd) : Prop where
  kind : I64 x.kind
  par : I64 x.par
  at_ : I64 x.at_
  fin : I64 x.fin
  has : I64 x.has
  size : I64 x.size
  width : I64 x.width
  height : I64 x.height
  lead : I64 x.lead
  skip : I64 x.skip
  tol : I64 x.tol
  font : x.font.size ≤ 140737488355328
  chs : x.chs.length ≤ 4294967296
/-- the slice of a node's characters -/
def Cv (W : World) (B : Nat) (x : Nd × Value) : Prop := ∃ ca cap, x.2 = .slice ca x.1.chs.length cap ∧ SlB W B ca x.1.chs.length (x.1.chs.flatMap chI)
/-- a list of nodes below block B -/
structure NL (W : World) (B : Nat) (ad : Option Addr) (xs : List (Nd × Value)) : Prop where
  sl : SlB W B ad xs.length (xs.flatMap ndc)
  cv : ∀ x ∈ xs, Cv W B x
theorem Cv.keep {L : List Nat} {W W' : World} {B : Nat} {x : Nd × Value} (h : Cv W B x) (k : Only L W W') (hL : ∀ b ∈ L, B ≤ b) : Cv W' B x := by
  obtain ⟨ca, cap, e, hs⟩ := h
  exact ⟨ca, cap, e, hs.keep k hL⟩
theorem NL.keep {L : List Nat} {W W' : World} {B : Nat} {ad : Option Addr} {xs : List (Nd × Value)} (h : NL W B ad xs) (k : Only L W W') (hL : ∀ b ∈ L, B ≤ b) : NL W' B ad xs :=
  ⟨h.sl.keep k hL, fun x hx => (h.cv x hx).keep k hL⟩
theorem NL.still {W W' : World} {B : Nat} {ad : Option Addr} {xs : List (Nd × Value)} (h : NL W B ad xs) (k : Only [] W W') : NL W' B ad xs := h.keep k (by simp)
theorem NL.mono {W : World} {B C : Nat} {ad : Option Addr} {xs : List (Nd × Value)} (h : NL W B ad xs) (hC : B ≤ C) : NL W C ad xs :=
  ⟨h.sl.mono hC, fun x hx => by obtain ⟨ca, cap, e, hs⟩ := h.cv x hx; exact ⟨ca, cap, e, hs.mono hC⟩⟩
abbrev nds (xs : List (Nd × Value)) : List Nd := xs.map (·.1)
theorem nds_get {xs : List (Nd × Value)} {i : Nat} {x : Nd × Value} (h : xs[i]? = some x) : (nds xs)[i]? = some x.1 := by rw [List.getElem?_map, h]; rfl
/-- element i of the list: where it lies -/
theorem NL.at_ {W : World} {B : Nat} {ad : Option Addr} {xs : List (Nd × Value)} (h : NL W B ad xs) {i : Nat} {x : Nd × Value} (hi : xs[i]? = some x) :
    ∃ b off, ad = some ⟨b, off, none⟩ ∧ b < B ∧ b < W.heap.size ∧ ∀ c v, (ndc x)[c]? = some v → W.cell? ⟨b, off + i * 13 + c, none⟩ = some v := by
  have h0 : xs.length ≠ 0 := fun e => by
    rw [List.eq_nil_of_length_eq_zero e] at hi; simp at hi
  obtain ⟨b, off, e, hb, ha⟩ := h.sl h0
  refine ⟨b, off, e, hb, ha.1, fun c v hv => ?_⟩
  have hc : c < 13 := by
    rcases Nat.lt_or_ge c 13 with g | g
    · exact g
    · rw [List.getElem?_eq_none (by rw [ndc_len]; exact g)] at hv; cases hv
  rw [Nat.add_assoc]
  exact ha.2 (i * 13 + c) v ((flat_get (enc := ndc) ndc_len hc hi).trans hv)

def isK (k : Int) : Bool := decide (1 ≤ k ∧ k ≤ 5)
set_option maxHeartbeats 1000000 in
theorem isKind_any (k : Int) (w : World) : Calls Tryd.prog 45 #[.int .i64 k] w fun e w' => e = .returned (.bool (isK k)) ∧ w' = w := by
  obtain ⟨r, hr⟩ : ∃ r, isK k = r := ⟨_, rfl⟩
  rw [hr]
  unfold isK at hr
  by_cases h1 : 1 ≤ k
  · by_cases h2 : k ≤ 5
    · rw [decide_eq_true ⟨h1, h2⟩] at hr
      subst hr
      go_enter Tryd.func45, Tryd.ntmps45
      go_wp2
      go_ret
      exact ⟨rfl, rfl⟩
    · rw [decide_eq_false (fun h => h2 h.2)] at hr
      subst hr
      go_enter Tryd.func45, Tryd.ntmps45
      go_wp2
      go_ret
      exact ⟨rfl, rfl⟩
  · rw [decide_eq_false (fun h => h1 h.1)] at hr
    subst hr
    go_enter Tryd.func45, Tryd.ntmps45
    go_wp2
    go_ret
    exact ⟨rfl, rfl⟩

set_option maxRecDepth 100000 in
set_option maxHeartbeats 8000000 in
/-- what the table has of a node's kind -/
theorem kindOf_c {x : Nd × Value} {k : Nat} (hk : x.1.kind = (k : Int)) (h1 : 1 ≤ k) (h5 : k ≤ 5) (w : World) (hT : Tt w) :
    Calls Tryd.prog 50 #[.agg (ndc x).toArray] w fun e w' => e = .returned (.agg (kindC k).toArray) ∧ Only [] w w' := by
  have c0 := hT.kd k h1 h5 0 _ rfl
  have c1 := hT.kd k h1 h5 1 _ rfl
  have c2 := hT.kd k h1 h5 2 _ rfl
  have c3 := hT.kd k h1 h5 3 _ rfl
  have hz : 5 ≤ w.heap.size := hT.tc.sz
  have i0 : (0 : Int) ≤ (k : Int) := by omega
  have i6 : (k : Int) < 6 := by omega
  simp only [Nat.add_zero] at c0
  unfold kindC
  obtain ⟨a, ha⟩ : ∃ a, kName k = a := ⟨_, rfl⟩
  obtain ⟨b, hb⟩ : ∃ b, kIn k = b := ⟨_, rfl⟩
  obtain ⟨c, hc⟩ : ∃ c, may k = c := ⟨_, rfl⟩
  obtain ⟨d, hd⟩ : ∃ d, kMust k = d := ⟨_, rfl⟩
  rw [ha] at c0
  rw [hb] at c1
  rw [hc] at c2
  rw [hd] at c3
  rw [ha, hb, hc, hd]
  clear ha hb hc hd hT
  unfold ndc
  rw [hk]
  clear hk
  have d0 : ∀ o p : Obj, ((w.alloc o).alloc p).cell? ⟨0, k * 4, none⟩ = some (.string a) := fun o p => (cell_past2 w o p 0 _ (by omega)).trans c0
  have d1 : ∀ o p : Obj, ((w.alloc o).alloc p).cell? ⟨0, k * 4 + 1, none⟩ = some (.int .i64 b) := fun o p => (cell_past2 w o p 0 _ (by omega)).trans c1
  have d2 : ∀ o p : Obj, ((w.alloc o).alloc p).cell? ⟨0, k * 4 + 2, none⟩ = some (.int .i64 c) := fun o p => (cell_past2 w o p 0 _ (by omega)).trans c2
  have d3 : ∀ o p : Obj, ((w.alloc o).alloc p).cell? ⟨0, k * 4 + 3, none⟩ = some (.int .i64 d) := fun o p => (cell_past2 w o p 0 _ (by omega)).trans c3
  clear c0 c1 c2 c3
  go_enter Tryd.func50, Tryd.ntmps50
  go_wp2_with fail
  exact bodyPost_ret (v := .agg #[.string a, .int .i64 b, .int .i64 c, .int .i64 d]) (by simp [results, Tryd.results50, go_sem]) rfl ⟨rfl, ((Only.refl _ _).alloc _).alloc _⟩
end Go.Proofs.YtmlhibcbgdhadaaDoor
