/- A lent document whose places are written over. -/
import Derived.Test.YtmlhibcbgdhadaaDoorInjB
import Derived.Test.YtmlhibcbgdhadaaDoorLm
namespace Go.Proofs.YtmlhibcbgdhadaaDoor
open Go.RowKit

/-- an owned row as a block -/
theorem row_blk {w : World} {base size n c b : Nat} {e : TypeId} {xs : List Value} (h : w.ownsRow base e size (.slice (some ⟨b, 0, none⟩) n c) n xs) : ∃ C, Blk w b C e ∧ C.take (n * size) = xs ∧ base ≤ b := by
  rcases h.2 with ⟨e2, _⟩ | ⟨g, cap', cur, e2, hb, hh, hnc, _, hs, hx⟩
  · cases e2
  · cases e2
    exact ⟨cur.toList, by simpa [Blk] using hh, hx, hb⟩
/-- all of a lent node but its places -/
def key (p : Ln) : Ln := ({ p.1 with at_ := 0, fin := 0, chs := p.1.chs.map fun x => (x.1, 0, 0) }, p.2)
structure MV (W : World) (B xb ab ac : Nat) (vc : Value) (ps : List Ln) : Prop where
  bx : Blk W xb [.slice (some ⟨ab, 0, none⟩) (ps.length + 1) ac, vc] 32
  va : ∃ A, Blk W ab A 42 ∧ A.take (ps.length * 13) = (ps.map ly).flatMap ndc ∧ B ≤ ab
  vc : W.ownsRow B 40 1 vc ps.length (ps.map lc)
  ch : ∀ p ∈ ps, ∃ C, Blk W p.2.1 C 44 ∧ C.take (p.1.chs.length * 3) = p.1.chs.flatMap chI ∧ B ≤ p.2.1
theorem LM.mv {w : World} {B xb ab ac : Nat} {vc : Value} {ps : List Ln} (h : LM w B xb ab ac vc ps) : MV w B xb ab ac vc ps := by
  refine ⟨h.bx, ?_, h.vc, fun p hp => ?_⟩
  · obtain ⟨A, h1, h2, h3⟩ := row_blk h.va
    refine ⟨A, h1, ?_, h3⟩
    have hl : ((ps.map ly).flatMap ndc).length = ps.length * 13 := by rw [flat_len ndc_len]; simp
    have : A.take (ps.length * 13) = (A.take ((ps.length + 1) * 13)).take (ps.length * 13) := by rw [List.take_take]; congr 1; omega
    rw [this, h2, ← hl, List.take_left']
    rfl
  · obtain ⟨C, h1, h2, h3⟩ := row_blk (h.ch p hp)
    refine ⟨C, h1, ?_, h3⟩
    have hl : (p.1.chs.flatMap chI).length = p.1.chs.length * 3 := flat_len chI_len _
    have : C.take (p.1.chs.length * 3) = (C.take ((p.1.chs.length + 1) * 3)).take (p.1.chs.length * 3) := by rw [List.take_take]; congr 1; omega
    rw [this, h2, ← hl, List.take_left']
    rfl
theorem MV.still {w w' : World} {B xb ab ac : Nat} {vc : Value} {ps : List Ln} (h : MV w B xb ab ac vc ps) (o : Only [] w w') : MV w' B xb ab ac vc ps := by
  obtain ⟨A, h1, h2, h3⟩ := h.va
  exact ⟨o.blk h.bx (by simp), ⟨A, o.blk h1 (by simp), h2, h3⟩, row_only h.vc o (by simp), fun p hp => by
    obtain ⟨C, q1, q2, q3⟩ := h.ch p hp
    exact ⟨C, o.blk q1 (by simp), q2, q3⟩⟩
theorem take_at {A : List Value} {m : Nat} {xs : List Value} (h : A.take m = xs) (b : Nat) (W : World) (t : TypeId) (hb : Blk W b A t) : At W b 0 xs := by
  refine ⟨hb.lt, fun j u hj => ?_⟩
  rw [← h, List.getElem?_take] at hj
  split at hj
  · rw [Nat.zero_add, hb.cell]; exact hj
  · cases hj
/-- the copies as a list of nodes -/
theorem MV.nl {w : World} {B xb ab ac : Nat} {vc : Value} {ps : List Ln} (h : MV w B xb ab ac vc ps) : NL w w.heap.size (some ⟨ab, 0, none⟩) (ps.map ly) := by
  obtain ⟨A, h1, h2, h3⟩ := h.va
  refine ⟨fun _ => ⟨ab, 0, rfl, h1.lt, take_at h2 ab w 42 h1⟩, fun x hx => ?_⟩
  obtain ⟨p, hp, rfl⟩ := List.mem_map.1 hx
  obtain ⟨C, q1, q2, q3⟩ := h.ch p hp
  exact ⟨some ⟨p.2.1, 0, none⟩, p.2.2, rfl, fun _ => ⟨p.2.1, 0, rfl, q1.lt, take_at q2 p.2.1 w 44 q1⟩⟩
theorem list_take_set {xs : List Value} {A : List Value} {m i : Nat} {v : Value} (h : A.take m = xs) : (A.set i v).take m = xs.set i v := by rw [List.take_set, h]
theorem flat_put : ∀ (l : List (Nd × Value)) (i c : Nat) (x : Nd × Value) (v : Value) (y : Nd × Value), l[i]? = some x → c < 13 → ndc y = (ndc x).set c v → (l.flatMap ndc).set (i * 13 + c) v = (l.set i y).flatMap ndc
  | [], i, c, x, v, y, h, _, _ => by simp at h
  | z :: l, 0, c, x, v, y, h, hc, hy => by
    simp at h
    subst h
    rw [List.flatMap_cons, Nat.zero_mul, Nat.zero_add, List.set_append_left _ _ (by rw [ndc_len]; exact hc), List.set_cons_zero, List.flatMap_cons, hy]
  | z :: l, i + 1, c, x, v, y, h, hc, hy => by
    have ih := flat_put l i c x v y (by simpa using h) hc hy
    rw [List.flatMap_cons, List.set_append_right _ _ (by rw [ndc_len]; omega), ndc_len, show (i + 1) * 13 + c - 13 = i * 13 + c by omega, ih, List.set_cons_succ, List.flatMap_cons]
theorem lc_key {p q : Ln} (h : key p = key q) : lc p = lc q := by
  have h1 : p.2 = q.2 := (congrArg (fun z : Ln => z.2) h : (key p).2 = (key q).2)
  have h2 : p.1.chs.length = q.1.chs.length := by
    have := congrArg (fun z : Ln => z.1.chs.length) h
    simpa [key] using this
  unfold lc
  rw [h1, h2]
theorem set_self {α : Type} {l : List α} {i : Nat} {x : α} (h : l[i]? = some x) : l.set i x = l := by
  obtain ⟨h1, h2⟩ := List.getElem?_eq_some_iff.1 h
  rw [← h2]
  exact List.set_getElem_self h1
theorem map_lc {ps qs : List Ln} (h : ps.map key = qs.map key) : ps.map lc = qs.map lc := by
  have hl : ps.length = qs.length := by simpa using congrArg List.length h
  apply List.ext_getElem (by simp [hl])
  intro i h1 h2
  simp only [List.getElem_map]
  refine lc_key ?_
  have := congrArg (fun l : List Ln => l[i]?) h
  simp only [List.getElem?_map] at this
  rw [List.getElem?_eq_getElem (by simpa using h1), List.getElem?_eq_getElem (by simpa using h2)] at this
  simpa using this
/-- a node's place is written over -/
theorem MV.put {w : World} {B xb ab ac : Nat} {vc : Value} {ps : List Ln} (h : MV w B xb ab ac vc ps) {i c : Nat} {p q : Ln} (v : Value) (hi : ps[i]? = some p) (hc : c < 13) (hq : key q = key p) (hq2 : ndc (ly q) = (ndc (ly p)).set c v) (hch : q.1.chs = p.1.chs) :
    (w.frozen? ⟨ab, i * 13 + c, none⟩ = false ∧ ∃ u, w.cell? ⟨ab, i * 13 + c, none⟩ = some u) ∧ MV (w.setCell ⟨ab, i * 13 + c, none⟩ v) B xb ab ac vc (ps.set i q) ∧ (ps.set i q).map key = ps.map key := by
  obtain ⟨A, h1, h2, h3⟩ := h.va
  have hlt := (List.getElem?_eq_some_iff.1 hi).1
  have hl : ((ps.map ly).flatMap ndc).length = ps.length * 13 := by rw [flat_len ndc_len]; simp
  have hA : i * 13 + c < A.length := by
    have := congrArg List.length h2
    rw [hl, List.length_take] at this
    omega
  have hk : (ps.set i q).map key = ps.map key := by
    rw [List.map_set, hq]
    exact set_self (by rw [List.getElem?_map, hi]; rfl)
  have hp2 : q.2 = p.2 := (congrArg (fun z : Ln => z.2) hq : (key q).2 = (key p).2)
  refine ⟨⟨h1.froz _, _, (h1.cell _).trans (List.getElem?_eq_getElem hA)⟩, ⟨?_, ?_, ?_, ?_⟩, hk⟩
  · rw [List.length_set]
    exact h.bx.other _ _ (fun e => by subst e; exact absurd (h.bx.same h1).2 (by decide))
  · refine ⟨_, h1.set _ v, ?_, h3⟩
    rw [List.length_set, list_take_set h2, List.map_set]
    exact flat_put (ps.map ly) i c (ly p) v (ly q) (by rw [List.getElem?_map, hi]; rfl) hc hq2
  · rw [List.length_set, map_lc hk]
    exact ownsRow_setCell_other h.vc (row_not h.vc h1 (by decide)) v
  · intro r hr
    have : r ∈ ps ∨ r = q := List.mem_or_eq_of_mem_set hr
    rcases this with hr | rfl
    · obtain ⟨C, q1, q2, q3⟩ := h.ch r hr
      exact ⟨C, q1.other _ _ (fun e => by rw [e] at q1; exact absurd (q1.same h1).2 (by decide)), q2, q3⟩
    · obtain ⟨C, q1, q2, q3⟩ := h.ch p (List.mem_of_getElem? hi)
      rw [← hp2] at q1 q3
      rw [← hch] at q2
      exact ⟨C, q1.other _ _ (fun e => by rw [e] at q1; exact absurd (q1.same h1).2 (by decide)), q2, q3⟩
/-- a character's place written over -/
def chP (c : Nat) (v : Int) (x : Int × Int × Int) : Int × Int × Int := if c = 1 then (x.1, v, x.2.2) else (x.1, x.2.1, v)
def chM (b k c : Nat) (v : Int) (p : Ln) : Ln := if p.2.1 = b then ({ p.1 with chs := p.1.chs.modify k (chP c v) }, p.2) else p
theorem modify_map {α β : Type} {f : α → α} (g : α → β) (hf : ∀ x, g (f x) = g x) : ∀ (l : List α) (k : Nat), (l.modify k f).map g = l.map g
  | [], k => by simp
  | x :: l, 0 => by rw [List.modify_zero_cons, List.map_cons, List.map_cons, hf]
  | x :: l, k + 1 => by rw [List.modify_succ_cons, List.map_cons, List.map_cons, modify_map g hf l k]
theorem chM_key (b k c : Nat) (v : Int) (p : Ln) : key (chM b k c v p) = key p := by
  unfold chM
  split
  · unfold key
    have : (p.1.chs.modify k (chP c v)).map (fun x => (x.1, (0 : Int), (0 : Int))) = p.1.chs.map (fun x => (x.1, (0 : Int), (0 : Int))) := by
      exact modify_map (fun x : Int × Int × Int => (x.1, (0 : Int), (0 : Int))) (fun x => by unfold chP; split <;> rfl) _ _
    rw [this]
  · rfl
theorem flat_chs : ∀ (l : List (Int × Int × Int)) (k c : Nat) (v : Int), (c = 1 ∨ c = 2) → k < l.length → (l.flatMap chI).set (k * 3 + c) (.int .i64 v) = (l.modify k (chP c v)).flatMap chI
  | [], k, c, v, _, h => by simp at h
  | z :: l, 0, c, v, hc, h => by
    rw [List.flatMap_cons, Nat.zero_mul, Nat.zero_add, List.set_append_left _ _ (by rw [chI_len]; omega), List.modify_zero_cons, List.flatMap_cons]
    congr 1
    rcases hc with rfl | rfl <;> rfl
  | z :: l, k + 1, c, v, hc, h => by
    have ih := flat_chs l k c v hc (by simpa using h)
    rw [List.flatMap_cons, List.set_append_right _ _ (by rw [chI_len]; omega), chI_len, show (k + 1) * 3 + c - 3 = k * 3 + c by omega, ih, List.modify_succ_cons, List.flatMap_cons]
theorem chM_len (b k c : Nat) (v : Int) (p : Ln) : (chM b k c v p).1.chs.length = p.1.chs.length ∧ (chM b k c v p).2 = p.2 := by
  unfold chM
  split <;> simp
theorem MV.putC {w : World} {B xb ab ac : Nat} {vc : Value} {ps : List Ln} (h : MV w B xb ab ac vc ps) {i k c : Nat} {p : Ln} (v : Int) (hi : ps[i]? = some p) (hk : k < p.1.chs.length) (hc : c = 1 ∨ c = 2) :
    (w.frozen? ⟨p.2.1, k * 3 + c, none⟩ = false ∧ ∃ u, w.cell? ⟨p.2.1, k * 3 + c, none⟩ = some u) ∧ MV (w.setCell ⟨p.2.1, k * 3 + c, none⟩ (.int .i64 v)) B xb ab ac vc (ps.map (chM p.2.1 k c v)) ∧ (ps.map (chM p.2.1 k c v)).map key = ps.map key := by
  obtain ⟨C, h1, h2, h3⟩ := h.ch p (List.mem_of_getElem? hi)
  have hl : (p.1.chs.flatMap chI).length = p.1.chs.length * 3 := flat_len chI_len _
  have hC : k * 3 + c < C.length := by
    have := congrArg List.length h2
    rw [hl, List.length_take] at this
    omega
  have hkey : (ps.map (chM p.2.1 k c v)).map key = ps.map key := by
    rw [List.map_map]
    exact List.map_congr_left fun q _ => chM_key _ _ _ _ q
  have hly : ((ps.map (chM p.2.1 k c v)).map ly).flatMap ndc = (ps.map ly).flatMap ndc := by
    rw [List.map_map, List.flatMap_map, List.flatMap_map]
    congr 1
    funext q
    have h1 := chM_len p.2.1 k c v q
    show ndc (ly (chM p.2.1 k c v q)) = ndc (ly q)
    unfold ly
    rw [h1.1, h1.2]
    unfold chM
    split <;> rfl
  obtain ⟨A, a1, a2, a3⟩ := h.va
  have hne : ∀ {b : Nat} {xs : List Value} {t : TypeId}, Blk w b xs t → t ≠ 44 → b ≠ p.2.1 := fun {b xs t} hb ht e => by
    subst e; exact ht (hb.same h1).2
  refine ⟨⟨h1.froz _, _, (h1.cell _).trans (List.getElem?_eq_getElem hC)⟩, ⟨?_, ⟨A, a1.other _ _ (hne a1 (by decide)), ?_, a3⟩, ?_, ?_⟩, hkey⟩
  · rw [List.length_map]
    exact h.bx.other _ _ (hne h.bx (by decide))
  · rw [List.length_map, hly]; exact a2
  · rw [List.length_map, map_lc hkey]
    exact ownsRow_setCell_other h.vc (row_not h.vc h1 (by decide)) _
  · intro r hr
    obtain ⟨q, hq, rfl⟩ := List.mem_map.1 hr
    obtain ⟨D, d1, d2, d3⟩ := h.ch q hq
    have hcl := chM_len p.2.1 k c v q
    rw [hcl.1, hcl.2]
    by_cases e : q.2.1 = p.2.1
    · rw [e] at d1 d3 ⊢
      refine ⟨_, d1.set _ _, ?_, d3⟩
      rw [list_take_set d2]
      unfold chM
      rw [if_pos e]
      dsimp only
      by_cases hk2 : k < q.1.chs.length
      · exact flat_chs _ _ _ _ hc hk2
      · have hlq : (q.1.chs.flatMap chI).length = q.1.chs.length * 3 := flat_len chI_len _
        rw [List.set_eq_of_length_le (by rw [hlq]; omega), List.modify_eq_self (by omega)]
    · refine ⟨D, d1.other _ _ e, ?_, d3⟩
      rw [d2]
      unfold chM
      rw [if_neg e]
end Go.Proofs.YtmlhibcbgdhadaaDoor
