/- A font's bytes are read as the font; what is read is a font's bytes. -/
import Derived.Test.YtdinlaoimpoolaaSer
namespace Go.Proofs.Ytdinlaoimpoolaa
open Go.RowKit

/-- a pair -/
theorem goes_pair (sm em : Nat) (gs : List Gl) (ps : List Pr) (ng np : Nat) (g : Gl) (p0 q : Pr) (hg : ∀ g ∈ gs, widthI g.1 ≠ 0 ∧ units g = true) (hk : pairOK gs q = true) (h1 : (aheadP ps).1 ≤ q.1) (h2 : (aheadP ps).1 < q.1 ∨ (aheadP ps).2.1 < q.2.1) :
    Goes ⟨10, 0, 0, sm, em, gs, ps, ng, np, g, p0⟩ (pb q) ⟨if (ps ++ [q]).length < np then 10 else 15, 0, 0, sumF sm (pb q), em, gs, ps ++ [q], ng, np, g, q⟩ := by
  obtain ⟨l, r, is, lig, kern⟩ := q
  simp only [pairOK, Bool.and_eq_true] at hk
  simp only at h1 h2
  obtain ⟨k1, k2, k3⟩ := hk
  obtain ⟨l0, l1⟩ := has_fit hg k1
  obtain ⟨r0, r1⟩ := has_fit hg k2
  obtain ⟨l, rfl⟩ : ∃ n : Nat, l = (n : Int) := ⟨l.toNat, (toN l0).symm⟩
  obtain ⟨r, rfl⟩ : ∃ n : Nat, r = (n : Int) := ⟨r.toNat, (toN r0).symm⟩
  have s1 := goes_num 10 sm em gs ps ng np g p0 2 l rfl (by omega) (by decide) (by simp [fits, k1, h1])
  have s2 := goes_num 11 (sumF sm (be 3 l)) em gs ps ng np g ((l : Int), 0, false, 0, 0) 2 r rfl (by omega) (by decide) (by simp [fits, k2, h2])
  cases is with
  | true =>
    simp only [if_true, Bool.and_eq_true, decide_eq_true_eq] at k3
    obtain ⟨k3, rfl⟩ := k3
    obtain ⟨g0, g1⟩ := has_fit hg k3
    obtain ⟨lig, rfl⟩ : ∃ n : Nat, lig = (n : Int) := ⟨lig.toNat, (toN g0).symm⟩
    simp only [pb, Int.toNat_natCast, if_true]
    rw [sumF_app, sumF_app, sumF_app]
    have s3 := goes_num 12 (sumF (sumF sm (be 3 l)) (be 3 r)) em gs ps ng np g ((l : Int), (r : Int), false, 0, 0) 0 1 rfl (by decide) (by decide) (by simp [fits])
    have s4 := goes_num 13 (sumF (sumF (sumF sm (be 3 l)) (be 3 r)) (be 1 1)) em gs ps ng np g ((l : Int), (r : Int), true, 0, 0) 2 lig rfl (by omega) (by decide) (by simp [fits, k3])
    exact s1.trans (s2.trans (s3.trans s4))
  | false =>
    simp only [Bool.false_eq_true, if_false, Bool.and_eq_true, decide_eq_true_eq, kernOK] at k3
    obtain ⟨rfl, k4, k5, k6⟩ := k3
    have w1 := wide_of (gs := gs) (fun g hm => (hg g hm).2) (l : Int)
    have w2 := wide_of (gs := gs) (fun g hm => (hg g hm).2) (r : Int)
    obtain ⟨n, hn⟩ : ∃ n : Nat, kern + 32768 = (n : Int) := ⟨(kern + 32768).toNat, (toN (by omega)).symm⟩
    have hkn : (n : Int) - 32768 = kern := by omega
    simp only [pb, Int.toNat_natCast, Bool.false_eq_true, if_false]
    rw [hn, Int.toNat_natCast, sumF_app, sumF_app, sumF_app]
    have s3 := goes_num 12 (sumF (sumF sm (be 3 l)) (be 3 r)) em gs ps ng np g ((l : Int), (r : Int), false, 0, 0) 0 2 rfl (by decide) (by decide) (by simp [fits])
    have s4 := goes_num 14 (sumF (sumF (sumF sm (be 3 l)) (be 3 r)) (be 1 2)) em gs ps ng np g ((l : Int), (r : Int), false, 0, 0) 1 n rfl (by omega) (by decide) (by
      simp only [fits, mayK, hkn]
      rw [decide_eq_true k4, decide_eq_true k6, decide_eq_true k5]; rfl)
    have e : nxt ⟨14, n, 2, sumF (sumF (sumF (sumF sm (be 3 l)) (be 3 r)) (be 1 2)) (be 2 n), em, gs, ps, ng, np, g, ((l : Int), (r : Int), false, 0, 0)⟩ = ⟨if (ps ++ [((l : Int), (r : Int), false, (0 : Int), kern)]).length < np then 10 else 15, 0, 0, sumF (sumF (sumF (sumF sm (be 3 l)) (be 3 r)) (be 1 2)) (be 2 n), em, gs, ps ++ [((l : Int), (r : Int), false, 0, kern)], ng, np, g, ((l : Int), (r : Int), false, 0, kern)⟩ := by
      rw [← hkn]; rfl
    rw [e] at s4
    exact s1.trans (s2.trans (s3.trans s4))
theorem prOK_take {gl : List Gl} : ∀ {xs ys : List Pr} {q : Option Pr}, prOK gl q (xs ++ ys) = true → prOK gl q xs = true
  | [], _, _, _ => rfl
  | x :: xs, ys, q, h => by
    simp only [List.cons_append, prOK, Bool.and_eq_true] at h ⊢
    exact ⟨h.1, prOK_take h.2⟩
theorem goes_pairs (em : Nat) (gs : List Gl) (ng np : Nat) (g : Gl) (hg : ∀ g ∈ gs, widthI g.1 ≠ 0 ∧ units g = true) : ∀ (ps' ps : List Pr) (sm : Nat) (p0 : Pr), ps.length + ps'.length = np → prOK gs none (ps ++ ps') = true →
    ∃ p1, Goes ⟨if ps.length < np then 10 else 15, 0, 0, sm, em, gs, ps, ng, np, g, p0⟩ (ps'.flatMap pb) ⟨15, 0, 0, sumF sm (ps'.flatMap pb), em, gs, ps ++ ps', ng, np, g, p1⟩
  | [], ps, sm, p0, hl, hk => by
    refine ⟨p0, ?_⟩
    simp only [List.length_nil] at hl
    rw [if_neg (by omega), List.append_nil]
    exact Goes.nil _
  | q :: ps', ps, sm, p0, hl, hk => by
    rw [List.length_cons] at hl
    have e : ps ++ q :: ps' = (ps ++ [q]) ++ ps' := by simp
    have hk2 : prOK gs none (ps ++ [q]) = true := prOK_take (by rw [← e]; exact hk)
    rw [prOK_snoc, Bool.and_eq_true] at hk2
    have hok := hk2.2
    simp only [okP, Bool.and_eq_true] at hok
    obtain ⟨o1, o2⟩ := hok
    have hq0 : 0 ≤ q.1 := by
      have := o1
      simp only [pairOK, Bool.and_eq_true] at this
      exact (has_fit hg this.1).1
    have ha : (aheadP ps).1 ≤ q.1 ∧ ((aheadP ps).1 < q.1 ∨ (aheadP ps).2.1 < q.2.1) := by
      unfold aheadP
      cases hl2 : ps.getLast? with
      | none => exact ⟨by show (-1 : Int) ≤ q.1; omega, .inl (by show (-1 : Int) < q.1; omega)⟩
      | some x =>
        rw [hl2] at o2
        have := (ord_lt x q).1 (by simpa using o2)
        unfold ltP at this
        simp only [Option.getD_some]
        omega
    have s1 := goes_pair sm em gs ps ng np g p0 q hg o1 ha.1 ha.2
    obtain ⟨p1, s2⟩ := goes_pairs em gs ng np g hg ps' (ps ++ [q]) (sumF sm (pb q)) q (by rw [List.length_append, List.length_singleton]; omega) (by rw [← e]; exact hk)
    refine ⟨p1, ?_⟩
    rw [if_pos (by omega), List.flatMap_cons, sumF_app, e]
    exact s1.trans s2
/-- a font's bytes are read as the font -/
theorem run_font {em : Int} {gs : List Gl} {ps : List Pr} (hv : verd em gs ps = 0) : ∃ st, run st0 0 (fontB em gs ps) = .inr st ∧ st.nx = 16 ∧ (st.em : Int) = em ∧ st.gs = gs ∧ st.ps = ps := by
  obtain ⟨he, hgl, hpl, hgk, hpk⟩ := verd_zero hv
  have hg := gl_all hgk
  obtain ⟨em, rfl⟩ : ∃ n : Nat, em = (n : Int) := ⟨em.toNat, (toN (by omega)).symm⟩
  have s1 := goes_num 0 2166136261 0 [] [] 0 0 (0, 0, 0, 0) (0, 0, false, 0, 0) 0 80 rfl (by decide) (by decide) (by simp [fits])
  have s2 := goes_num 1 (sumF 2166136261 (be 1 80)) 0 [] [] 0 0 (0, 0, 0, 0) (0, 0, false, 0, 0) 0 70 rfl (by decide) (by decide) (by simp [fits])
  have s3 := goes_num 2 (sumF (sumF 2166136261 (be 1 80)) (be 1 70)) 0 [] [] 0 0 (0, 0, 0, 0) (0, 0, false, 0, 0) 0 49 rfl (by decide) (by decide) (by simp [fits])
  have s4 := goes_num 3 (sumF (sumF (sumF 2166136261 (be 1 80)) (be 1 70)) (be 1 49)) 0 [] [] 0 0 (0, 0, 0, 0) (0, 0, false, 0, 0) 1 em rfl (by omega) (by decide) (by simp [fits]; omega)
  have s5 := goes_num 4 (sumF (sumF (sumF (sumF 2166136261 (be 1 80)) (be 1 70)) (be 1 49)) (be 2 em)) em [] [] 0 0 (0, 0, 0, 0) (0, 0, false, 0, 0) 1 gs.length rfl (by omega) (by decide) (by simp [fits]; omega)
  obtain ⟨g1, s6⟩ := goes_glyphs em [] gs.length 0 (0, 0, false, 0, 0) gs [] (sumF (sumF (sumF (sumF (sumF 2166136261 (be 1 80)) (be 1 70)) (be 1 49)) (be 2 em)) (be 2 gs.length)) (0, 0, 0, 0) (by simp) hgk
  have s7 := goes_num 9 (sumF (sumF (sumF (sumF (sumF (sumF 2166136261 (be 1 80)) (be 1 70)) (be 1 49)) (be 2 em)) (be 2 gs.length)) (gs.flatMap gb)) em ([] ++ gs) [] gs.length 0 g1 (0, 0, false, 0, 0) 1 ps.length rfl (by omega) (by decide) (by simp [fits]; omega)
  obtain ⟨p1, s8⟩ := goes_pairs em ([] ++ gs) gs.length ps.length g1 (by simpa using hg) ps [] (sumF (sumF (sumF (sumF (sumF (sumF (sumF 2166136261 (be 1 80)) (be 1 70)) (be 1 49)) (be 2 em)) (be 2 gs.length)) (gs.flatMap gb)) (be 2 ps.length)) (0, 0, false, 0, 0) (by simp) (by simpa using hpk)
  have all := s1.trans (s2.trans (s3.trans (s4.trans (s5.trans (s6.trans (s7.trans s8))))))
  have eb : be 1 80 ++ (be 1 70 ++ (be 1 49 ++ (be 2 em ++ (be 2 gs.length ++ (gs.flatMap gb ++ (be 2 ps.length ++ ps.flatMap pb)))))) = body (em : Int) gs ps := by
    unfold body PF
    rw [Int.toNat_natCast]
    rfl
  have es : sumF (sumF (sumF (sumF (sumF (sumF (sumF (sumF 2166136261 (be 1 80)) (be 1 70)) (be 1 49)) (be 2 em)) (be 2 gs.length)) (gs.flatMap gb)) (be 2 ps.length)) (ps.flatMap pb) = sumB (body (em : Int) gs ps) := by
    unfold sumB
    rw [← eb]
    simp only [sumF_app]
  have eb' : be (0 + 1) 80 ++ (be (0 + 1) 70 ++ (be (0 + 1) 49 ++ (be (1 + 1) em ++ (be (1 + 1) gs.length ++ (gs.flatMap gb ++ (be (1 + 1) ps.length ++ ps.flatMap pb)))))) = body (em : Int) gs ps := eb
  rw [eb', es] at all
  have hSl := sumB_lt (body (em : Int) gs ps)
  unfold fontB
  obtain ⟨S, hS⟩ : ∃ S, sumB (body (em : Int) gs ps) = S := ⟨_, rfl⟩
  rw [hS] at all hSl ⊢
  have hlast := run_be [] 3 S ⟨15, 0, 0, S, em, [] ++ gs, [] ++ ps, gs.length, ps.length, g1, p1⟩ (0 + (body (em : Int) gs ps).length) rfl hSl
  rw [List.append_nil] at hlast
  have er : read ⟨15, 0, 0, S, em, [] ++ gs, [] ++ ps, gs.length, ps.length, g1, p1⟩ (3 + 1) S = ⟨15, S, 4, S, em, [] ++ gs, [] ++ ps, gs.length, ps.length, g1, p1⟩ := by
    unfold read
    simp only [Nat.zero_mul, Nat.zero_add, if_true]
  have en : nxt ⟨15, S, 4, S, em, [] ++ gs, [] ++ ps, gs.length, ps.length, g1, p1⟩ = ⟨16, 0, 0, S, em, [] ++ gs, [] ++ ps, gs.length, ps.length, g1, p1⟩ := rfl
  rw [er, if_pos (by simp [fits]), en, run] at hlast
  have ha := all 0 (be 4 S)
  exact ⟨⟨16, 0, 0, S, em, [] ++ gs, [] ++ ps, gs.length, ps.length, g1, p1⟩, ha.trans hlast, rfl, rfl, List.nil_append _, List.nil_append _⟩
end Go.Proofs.Ytdinlaoimpoolaa
