/- What a lent document is in memory; it is still so. -/
import Derived.Test.YtmlhibcbgdhadaaDoorLend
namespace Go.Proofs.YtmlhibcbgdhadaaDoor
open Go.RowKit

/-- a lent document: the pointer's block, its two rows, the characters' blocks -/
structure LM (w : World) (B xb ab ac : Nat) (vc : Value) (ps : List Ln) : Prop where
  bx : Blk w xb [.slice (some ⟨ab, 0, none⟩) (ps.length + 1) ac, vc] 32
  va : w.ownsRow B 42 13 (.slice (some ⟨ab, 0, none⟩) (ps.length + 1) ac) (ps.length + 1) ((ps.map ly).flatMap ndc ++ ndc (ndS, .slice none 0 0))
  vc : w.ownsRow B 40 1 vc ps.length (ps.map lc)
  ch : ∀ p ∈ ps, ChR w B p
theorem LM.still {w w' : World} {B xb ab ac : Nat} {vc : Value} {ps : List Ln} (h : LM w B xb ab ac vc ps) (o : Only [] w w') : LM w' B xb ab ac vc ps :=
  ⟨(o.block _ h.bx.lt (by simp)).trans h.bx, row_only h.va o (by simp), row_only h.vc o (by simp), fun p hp => row_only (h.ch p hp) o (by simp)⟩
theorem LM.room {w : World} {B xb ab ac : Nat} {vc : Value} {ps : List Ln} (h : LM w B xb ab ac vc ps) : ps.length + 1 ≤ ac := by
  obtain ⟨g, cap, e, hc⟩ := row_succ h.va
  injection e with e1 e2 e3
  omega
theorem lend_c {xs : List (Nd × Value)} {ad : Option Addr} {cap B : Nat} (w : World) (hNL : NL w B ad xs) (hB : B ≤ w.heap.size) (hf : ∀ x ∈ xs, x.1.chs.length ≤ 2147483647) (hl : xs.length ≤ 2147483647) :
    Calls Tryd.prog 11 #[.slice ad xs.length cap] w fun e w' => (∃ xb ab ac vc ps, e = .returned (.pointer (some ⟨xb, 0, none⟩)) ∧ w.heap.size ≤ xb ∧ ps.map (·.1) = nds xs ∧ LM w' w.heap.size xb ab ac vc ps) ∧ Only [] w w' :=
  (lend_any w hNL hB hf hl).mono fun e w' ⟨xb, va, vc, ps, h1, h2, h3, h4, h5, h6, h7, h8⟩ => by
    obtain ⟨ab, ac, rfl, -⟩ := row_succ h5
    exact ⟨⟨xb, ab, ac, vc, ps, h1, h2, h4, ⟨h3, h5, h6, h7⟩⟩, h8⟩
/-- the list of the copies -/
theorem LM.nl {w : World} {B xb ab ac : Nat} {vc : Value} {ps : List Ln} (h : LM w B xb ab ac vc ps) : NL w w.heap.size (some ⟨ab, 0, none⟩) (ps.map ly) := by
  obtain ⟨ad, cap, e, hs, -⟩ := row_reads h.va
  injection e with e1 e2 e3
  subst e1
  obtain ⟨b, off, e4, ha⟩ := hs (by omega)
  injection e4 with e4
  injection e4 with e4 e5
  subst e4 e5
  refine ⟨fun _ => ⟨ab, 0, rfl, ha.1, ha.1, fun j u hj => ha.2 j u ?_⟩, fun x hx => ?_⟩
  · rw [List.getElem?_append_left (List.getElem?_eq_some_iff.1 hj).1]; exact hj
  · obtain ⟨p, hp, rfl⟩ := List.mem_map.1 hx
    refine ⟨some ⟨p.2.1, 0, none⟩, p.2.2, rfl, fun _ => ?_⟩
    obtain ⟨ad2, cap2, e6, hs2, -⟩ := row_reads (h.ch p hp)
    injection e6 with e7 e8 e9
    obtain ⟨b2, off2, e10, ha2⟩ := hs2 (by omega)
    rw [← e7] at e10
    injection e10 with e10
    injection e10 with e10 e11
    refine ⟨p.2.1, 0, rfl, by rw [e10]; exact ha2.1, by rw [e10]; exact ha2.1, fun j u hj => ?_⟩
    replace hj : (p.1.chs.flatMap chI)[j]? = some u := hj
    have := ha2.2 j u (by rw [List.getElem?_append_left (List.getElem?_eq_some_iff.1 hj).1]; exact hj)
    rw [e10]
    show w.cell? ⟨b2, 0 + j, none⟩ = some u
    rw [← e11] at this
    exact this
theorem ly_nds (ps : List Ln) : nds (ps.map ly) = ps.map (·.1) := by unfold nds; rw [List.map_map]; rfl
/-- the stopper behind the copies -/
theorem LM.stop {w : World} {B xb ab ac : Nat} {vc : Value} {ps : List Ln} (h : LM w B xb ab ac vc ps) : ab < w.heap.size ∧ w.cell? ⟨ab, ps.length * 13, none⟩ = some (.int .i64 (-77)) := by
  obtain ⟨ad, cap, e, hs, -⟩ := row_reads h.va
  injection e with e1 e2 e3
  subst e1
  obtain ⟨b, off, e4, ha⟩ := hs (by omega)
  injection e4 with e4
  injection e4 with e4 e5
  subst e4 e5
  refine ⟨ha.1, ?_⟩
  have hl : ((ps.map ly).flatMap ndc).length = ps.length * 13 := by rw [flat_len ndc_len]; simp
  have := ha.2 (ps.length * 13) (.int .i64 (-77)) (by rw [List.getElem?_append_right (by rw [hl]; exact Nat.le_refl _), hl, Nat.sub_self]; rfl)
  rwa [Nat.zero_add] at this
/-- one kept list -/
theorem LM.kept {w : World} {B xb ab ac : Nat} {vc : Value} {ps : List Ln} (h : LM w B xb ab ac vc ps) {k : Nat} {p : Ln} (hk : ps[k]? = some p) :
    ∃ vb vcp, vc = .slice (some ⟨vb, 0, none⟩) ps.length vcp ∧ vb < w.heap.size ∧ w.cell? ⟨vb, k, none⟩ = some (lc p) ∧ p.2.1 < w.heap.size ∧ w.cell? ⟨p.2.1, p.1.chs.length * 3, none⟩ = some (.int .i64 (-77)) ∧ p.1.chs.length + 1 ≤ p.2.2 := by
  have hlt := (List.getElem?_eq_some_iff.1 hk).1
  obtain ⟨m, hm⟩ : ∃ m, ps.length = m + 1 := ⟨ps.length - 1, by omega⟩
  have hv := h.vc
  rw [hm] at hv
  obtain ⟨vb, vcp, rfl, -⟩ := row_succ hv
  obtain ⟨ad, cap, e, hs, -⟩ := row_reads hv
  injection e with e1 e2 e3
  subst e1
  obtain ⟨b, off, e4, ha⟩ := hs (by omega)
  injection e4 with e4
  injection e4 with e4 e5
  subst e4 e5
  have h1 := ha.2 k (lc p) (by rw [List.getElem?_map, hk]; rfl)
  rw [Nat.zero_add] at h1
  have hc := h.ch p (List.mem_of_getElem? hk)
  obtain ⟨g, cap2, e6, hc2⟩ := row_succ hc
  obtain ⟨ad2, cap3, e7, hs2, -⟩ := row_reads hc
  obtain ⟨b2, off2, e10, ha2⟩ := hs2 (by omega)
  rw [e10] at e7
  have e8 : some (⟨p.2.1, 0, none⟩ : Addr) = some ⟨b2, off2, none⟩ := by injection e7
  have e9 : p.2.2 = cap2 := by injection e6
  injection e8 with e8
  injection e8 with e8 e11
  have hl : (p.1.chs.flatMap chI).length = p.1.chs.length * 3 := flat_len chI_len _
  have h2 := ha2.2 (p.1.chs.length * 3) (.int .i64 (-77)) (by rw [List.getElem?_append_right (by rw [hl]; exact Nat.le_refl _), hl, Nat.sub_self]; rfl)
  refine ⟨vb, vcp, by rw [hm], ha.1, h1, by rw [e8]; exact ha2.1, ?_, by rw [e9]; exact hc2⟩
  rw [e8]
  rw [← e11, Nat.zero_add] at h2
  exact h2
end Go.Proofs.YtmlhibcbgdhadaaDoor
