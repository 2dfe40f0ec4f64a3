/- What holds while a font is read goes on holding. -/
import Derived.Test.YtdinlaoimpoolaaSpec
namespace Go.Proofs.Ytdinlaoimpoolaa
open Go.RowKit

theorem glOK_snoc (g : Gl) : ∀ (gs : List Gl) (a : Int), glOK a (gs ++ [g]) = (glOK a gs && okG ((gs.getLast?.map (·.1)).getD a) g)
  | [], a => by simp [glOK]
  | x :: gs, a => by
    rw [List.cons_append, glOK, glOK, glOK_snoc g gs x.1, Bool.and_assoc]
    congr 2
    cases gs with
    | nil => rfl
    | cons y ys => simp [List.getLast?_cons_cons]; rfl
theorem ahead_last (gs : List Gl) : (gs.getLast?.map (·.1)).getD (-1) = (aheadG gs).1 := by
  unfold aheadG
  cases gs.getLast? <;> rfl
theorem prOK_snoc (gl : List Gl) (p : Pr) : ∀ (ps : List Pr) (q : Option Pr), prOK gl q (ps ++ [p]) = (prOK gl q ps && okP gl (ps.getLast?.or q) p)
  | [], q => by simp [prOK]
  | x :: ps, q => by
    rw [List.cons_append, prOK, prOK, prOK_snoc gl p ps (some x), Bool.and_assoc]
    congr 2
    cases ps with
    | nil => rfl
    | cons y ys =>
      rw [List.getLast?_cons_cons]
      cases h : (y :: ys).getLast? with
      | none => simp at h
      | some z => rfl
theorem okP_of {gl : List Gl} {ps : List Pr} {p : Pr} (h : pairOK gl p = true) (h1 : (aheadP ps).1 ≤ p.1) (h2 : (aheadP ps).1 < p.1 ∨ (aheadP ps).2.1 < p.2.1) : okP gl (ps.getLast?.or none) p = true := by
  unfold aheadP at h1 h2
  cases hl : ps.getLast? with
  | none => unfold okP; rw [h]; rfl
  | some q =>
    rw [hl] at h1 h2
    simp only [Option.getD_some] at h1 h2
    unfold okP
    rw [h]
    simp only [Bool.true_and]
    exact decide_eq_true ((ord_lt q p).2 (by unfold ltP; omega))
theorem Good.of (nx nu bs sm em : Nat) (gs : List Gl) (ps : List Pr) (ng np : Nat) (g : Gl) (p : Pr) (h_n16 : nx ≤ 16) (h_sm : sm < 4294967296) (h_em : 4 ≤ nx → 1 ≤ em ∧ em ≤ 16384) (h_g0 : nx ≤ 4 → gs = []) (h_ng : 5 ≤ nx → ng ≤ 1024) (h_gl : 5 ≤ nx → nx ≤ 8 → gs.length < ng) (h_ge : 9 ≤ nx → gs.length = ng) (h_ok : glOK (-1) gs = true) (h_gr : 6 ≤ nx → nx ≤ 8 → widthI g.1 ≠ 0 ∧ (aheadG gs).1 < g.1) (h_gw : 7 ≤ nx → nx ≤ 8 → 0 ≤ g.2.1 ∧ g.2.1 ≤ 16384) (h_gh : nx = 8 → 0 ≤ g.2.2.1 ∧ g.2.2.1 ≤ 16384) (h_p0 : nx ≤ 9 → ps = []) (h_np : 10 ≤ nx → np ≤ 4096) (h_pl : 10 ≤ nx → nx ≤ 14 → ps.length < np) (h_pe : 15 ≤ nx → ps.length = np) (h_pok : prOK gs none ps = true) (h_pL : 11 ≤ nx → nx ≤ 14 → hasG gs p.1 = true ∧ (aheadP ps).1 ≤ p.1) (h_pR : 12 ≤ nx → nx ≤ 14 → hasG gs p.2.1 = true ∧ ((aheadP ps).1 < p.1 ∨ (aheadP ps).2.1 < p.2.1)) (h_pz : 11 ≤ nx → nx ≤ 14 → p.2.2.2.1 = 0 ∧ p.2.2.2.2 = 0) (h_pi : nx = 13 → p.2.2.1 = true) (h_pj : nx = 14 → p.2.2.1 = false) : Good ⟨nx, nu, bs, sm, em, gs, ps, ng, np, g, p⟩ :=
  ⟨h_n16, h_sm, h_em, h_g0, h_ng, h_gl, h_ge, h_ok, h_gr, h_gw, h_gh, h_p0, h_np, h_pl, h_pe, h_pok, h_pL, h_pR, h_pz, h_pi, h_pj⟩
theorem isb {b : Bool} (h : ¬ b = true) : b = false := by cases b <;> simp_all
set_option maxHeartbeats 2000000 in
theorem Good.settle {s : St} (G : Good s) {n : Nat} (hf : fits s n = true) : Good { put s n with nx := after (put s n), nu := 0, bs := 0 } := by
  obtain ⟨a1, a2, a3, a4, a5, a6, a7, a8, a9, b1, b2, b3, b4, b5, b6, b7, b8, b9, c1, c2, c3⟩ := G
  obtain ⟨nx, nu, bs, sm, em, gs, ps, ng, np, g, p⟩ := s
  simp only at a1 a2 a3 a4 a5 a6 a7 a8 a9 b1 b2 b3 b4 b5 b6 b7 b8 b9 c1 c2 c3
  have hc : nx = 0 ∨ nx = 1 ∨ nx = 2 ∨ nx = 3 ∨ nx = 4 ∨ nx = 5 ∨ nx = 6 ∨ nx = 7 ∨ nx = 8 ∨ nx = 9 ∨ nx = 10 ∨ nx = 11 ∨ nx = 12 ∨ nx = 13 ∨ nx = 14 ∨ nx = 15 ∨ nx = 16 := by omega
  rcases hc with rfl | rfl | rfl | rfl | rfl | rfl | rfl | rfl | rfl | rfl | rfl | rfl | rfl | rfl | rfl | rfl | rfl
  · skip
    exact Good.of 1 0 0 sm em gs ps ng np g p (by decide) (a2) (fun h => absurd h (by decide)) (fun _ => a4 (by decide)) (fun h => absurd h (by decide)) (fun h _ => absurd h (by decide)) (fun h => absurd h (by decide)) (a8) (fun h _ => absurd h (by decide)) (fun h _ => absurd h (by decide)) (fun h => absurd h (by decide)) (fun _ => b3 (by decide)) (fun h => absurd h (by decide)) (fun h _ => absurd h (by decide)) (fun h => absurd h (by decide)) (b7) (fun h _ => absurd h (by decide)) (fun h _ => absurd h (by decide)) (fun h _ => absurd h (by decide)) (fun h => absurd h (by decide)) (fun h => absurd h (by decide))
  · skip
    exact Good.of 2 0 0 sm em gs ps ng np g p (by decide) (a2) (fun h => absurd h (by decide)) (fun _ => a4 (by decide)) (fun h => absurd h (by decide)) (fun h _ => absurd h (by decide)) (fun h => absurd h (by decide)) (a8) (fun h _ => absurd h (by decide)) (fun h _ => absurd h (by decide)) (fun h => absurd h (by decide)) (fun _ => b3 (by decide)) (fun h => absurd h (by decide)) (fun h _ => absurd h (by decide)) (fun h => absurd h (by decide)) (b7) (fun h _ => absurd h (by decide)) (fun h _ => absurd h (by decide)) (fun h _ => absurd h (by decide)) (fun h => absurd h (by decide)) (fun h => absurd h (by decide))
  · skip
    exact Good.of 3 0 0 sm em gs ps ng np g p (by decide) (a2) (fun h => absurd h (by decide)) (fun _ => a4 (by decide)) (fun h => absurd h (by decide)) (fun h _ => absurd h (by decide)) (fun h => absurd h (by decide)) (a8) (fun h _ => absurd h (by decide)) (fun h _ => absurd h (by decide)) (fun h => absurd h (by decide)) (fun _ => b3 (by decide)) (fun h => absurd h (by decide)) (fun h _ => absurd h (by decide)) (fun h => absurd h (by decide)) (b7) (fun h _ => absurd h (by decide)) (fun h _ => absurd h (by decide)) (fun h _ => absurd h (by decide)) (fun h => absurd h (by decide)) (fun h => absurd h (by decide))
  · have hf : 1 ≤ n ∧ n ≤ 16384 := by simpa [fits] using hf
    exact Good.of 4 0 0 sm n gs ps ng np g p (by decide) (a2) (fun _ => ⟨hf.1, hf.2⟩) (fun _ => a4 (by decide)) (fun h => absurd h (by decide)) (fun h _ => absurd h (by decide)) (fun h => absurd h (by decide)) (a8) (fun h _ => absurd h (by decide)) (fun h _ => absurd h (by decide)) (fun h => absurd h (by decide)) (fun _ => b3 (by decide)) (fun h => absurd h (by decide)) (fun h _ => absurd h (by decide)) (fun h => absurd h (by decide)) (b7) (fun h _ => absurd h (by decide)) (fun h _ => absurd h (by decide)) (fun h _ => absurd h (by decide)) (fun h => absurd h (by decide)) (fun h => absurd h (by decide))
  · have hf : n ≤ 1024 := by simpa [fits] using hf
    by_cases hs : gs.length < n
    · rw [show after (put ⟨4, nu, bs, sm, em, gs, ps, ng, np, g, p⟩ n) = 5 from if_pos hs]
      exact Good.of 5 0 0 sm em gs ps n np g p (by decide) (a2) (fun _ => a3 (by decide)) (fun h => absurd h (by decide)) (fun _ => hf) (fun _ _ => hs) (fun h => absurd h (by decide)) (a8) (fun h _ => absurd h (by decide)) (fun h _ => absurd h (by decide)) (fun h => absurd h (by decide)) (fun _ => b3 (by decide)) (fun h => absurd h (by decide)) (fun h _ => absurd h (by decide)) (fun h => absurd h (by decide)) (b7) (fun h _ => absurd h (by decide)) (fun h _ => absurd h (by decide)) (fun h _ => absurd h (by decide)) (fun h => absurd h (by decide)) (fun h => absurd h (by decide))
    · rw [show after (put ⟨4, nu, bs, sm, em, gs, ps, ng, np, g, p⟩ n) = 9 from if_neg hs]
      exact Good.of 9 0 0 sm em gs ps n np g p (by decide) (a2) (fun _ => a3 (by decide)) (fun h => absurd h (by decide)) (fun _ => hf) (fun _ h => absurd h (by decide)) (fun _ => by have e := a4 (by decide); rw [e] at hs ⊢; simp only [List.length_nil] at hs ⊢; omega) (a8) (fun _ h => absurd h (by decide)) (fun _ h => absurd h (by decide)) (fun h => absurd h (by decide)) (fun _ => b3 (by decide)) (fun h => absurd h (by decide)) (fun h _ => absurd h (by decide)) (fun h => absurd h (by decide)) (b7) (fun h _ => absurd h (by decide)) (fun h _ => absurd h (by decide)) (fun h _ => absurd h (by decide)) (fun h => absurd h (by decide)) (fun h => absurd h (by decide))
  · have hf : widthI (n : Int) ≠ 0 ∧ (aheadG gs).1 < (n : Int) := by simpa [fits] using hf
    exact Good.of 6 0 0 sm em gs ps ng np ((n : Int), 0, 0, 0) p (by decide) (a2) (fun _ => a3 (by decide)) (fun h => absurd h (by decide)) (fun _ => a5 (by decide)) (fun _ _ => a6 (by decide) (by decide)) (fun h => absurd h (by decide)) (a8) (fun _ _ => ⟨hf.1, hf.2⟩) (fun h _ => absurd h (by decide)) (fun h => absurd h (by decide)) (fun _ => b3 (by decide)) (fun h => absurd h (by decide)) (fun h _ => absurd h (by decide)) (fun h => absurd h (by decide)) (b7) (fun h _ => absurd h (by decide)) (fun h _ => absurd h (by decide)) (fun h _ => absurd h (by decide)) (fun h => absurd h (by decide)) (fun h => absurd h (by decide))
  · have hf : n ≤ 16384 := by simpa [fits] using hf
    exact Good.of 7 0 0 sm em gs ps ng np (g.1, (n : Int), g.2.2.1, g.2.2.2) p (by decide) (a2) (fun _ => a3 (by decide)) (fun h => absurd h (by decide)) (fun _ => a5 (by decide)) (fun _ _ => a6 (by decide) (by decide)) (fun h => absurd h (by decide)) (a8) (fun _ _ => a9 (by decide) (by decide)) (fun _ _ => ⟨Int.natCast_nonneg _, by simp only []; omega⟩) (fun h => absurd h (by decide)) (fun _ => b3 (by decide)) (fun h => absurd h (by decide)) (fun h _ => absurd h (by decide)) (fun h => absurd h (by decide)) (b7) (fun h _ => absurd h (by decide)) (fun h _ => absurd h (by decide)) (fun h _ => absurd h (by decide)) (fun h => absurd h (by decide)) (fun h => absurd h (by decide))
  · have hf : n ≤ 16384 := by simpa [fits] using hf
    exact Good.of 8 0 0 sm em gs ps ng np (g.1, g.2.1, (n : Int), g.2.2.2) p (by decide) (a2) (fun _ => a3 (by decide)) (fun h => absurd h (by decide)) (fun _ => a5 (by decide)) (fun _ _ => a6 (by decide) (by decide)) (fun h => absurd h (by decide)) (a8) (fun _ _ => a9 (by decide) (by decide)) (fun _ _ => b1 (by decide) (by decide)) (fun _ => ⟨Int.natCast_nonneg _, by simp only []; omega⟩) (fun _ => b3 (by decide)) (fun h => absurd h (by decide)) (fun h _ => absurd h (by decide)) (fun h => absurd h (by decide)) (b7) (fun h _ => absurd h (by decide)) (fun h _ => absurd h (by decide)) (fun h _ => absurd h (by decide)) (fun h => absurd h (by decide)) (fun h => absurd h (by decide))
  · have hf : n ≤ 16384 := by simpa [fits] using hf
    have hok : glOK (-1) (gs ++ [(g.1, g.2.1, g.2.2.1, (n : Int))]) = true := by
      rw [glOK_snoc, ahead_last, a8]
      have e1 := a9 (by decide) (by decide)
      have e2 := b1 (by decide) (by decide)
      have e3 := b2 rfl
      simp only [okG, units, Bool.true_and, Bool.and_eq_true, decide_eq_true_eq]
      exact ⟨e1.1, e1.2, inU_true e2, inU_true e3, inU_true ⟨Int.natCast_nonneg _, by omega⟩⟩
    by_cases hs : (gs ++ [(g.1, g.2.1, g.2.2.1, (n : Int))]).length < ng
    · rw [show after (put ⟨8, nu, bs, sm, em, gs, ps, ng, np, g, p⟩ n) = 5 from if_pos hs]
      exact Good.of 5 0 0 sm em (gs ++ [(g.1, g.2.1, g.2.2.1, (n : Int))]) ps ng np (g.1, g.2.1, g.2.2.1, (n : Int)) p (by decide) (a2) (fun _ => a3 (by decide)) (fun h => absurd h (by decide)) (fun _ => a5 (by decide)) (fun _ _ => hs) (fun h => absurd h (by decide)) (hok) (fun h _ => absurd h (by decide)) (fun h _ => absurd h (by decide)) (fun h => absurd h (by decide)) (fun _ => b3 (by decide)) (fun h => absurd h (by decide)) (fun h _ => absurd h (by decide)) (fun h => absurd h (by decide)) (by rw [b3 (by decide)]; rfl) (fun h _ => absurd h (by decide)) (fun h _ => absurd h (by decide)) (fun h _ => absurd h (by decide)) (fun h => absurd h (by decide)) (fun h => absurd h (by decide))
    · rw [show after (put ⟨8, nu, bs, sm, em, gs, ps, ng, np, g, p⟩ n) = 9 from if_neg hs]
      exact Good.of 9 0 0 sm em (gs ++ [(g.1, g.2.1, g.2.2.1, (n : Int))]) ps ng np (g.1, g.2.1, g.2.2.1, (n : Int)) p (by decide) (a2) (fun _ => a3 (by decide)) (fun h => absurd h (by decide)) (fun _ => a5 (by decide)) (fun _ h => absurd h (by decide)) (fun _ => by have e := a6 (by decide) (by decide); simp only [List.length_append, List.length_singleton] at hs ⊢; omega) (hok) (fun _ h => absurd h (by decide)) (fun _ h => absurd h (by decide)) (fun h => absurd h (by decide)) (fun _ => b3 (by decide)) (fun h => absurd h (by decide)) (fun h _ => absurd h (by decide)) (fun h => absurd h (by decide)) (by rw [b3 (by decide)]; rfl) (fun h _ => absurd h (by decide)) (fun h _ => absurd h (by decide)) (fun h _ => absurd h (by decide)) (fun h => absurd h (by decide)) (fun h => absurd h (by decide))
  · have hf : n ≤ 4096 := by simpa [fits] using hf
    by_cases hs : ps.length < n
    · rw [show after (put ⟨9, nu, bs, sm, em, gs, ps, ng, np, g, p⟩ n) = 10 from if_pos hs]
      exact Good.of 10 0 0 sm em gs ps ng n g p (by decide) (a2) (fun _ => a3 (by decide)) (fun h => absurd h (by decide)) (fun _ => a5 (by decide)) (fun _ h => absurd h (by decide)) (fun _ => a7 (by decide)) (a8) (fun _ h => absurd h (by decide)) (fun _ h => absurd h (by decide)) (fun h => absurd h (by decide)) (fun h => absurd h (by decide)) (fun _ => hf) (fun _ _ => hs) (fun h => absurd h (by decide)) (b7) (fun h _ => absurd h (by decide)) (fun h _ => absurd h (by decide)) (fun h _ => absurd h (by decide)) (fun h => absurd h (by decide)) (fun h => absurd h (by decide))
    · rw [show after (put ⟨9, nu, bs, sm, em, gs, ps, ng, np, g, p⟩ n) = 15 from if_neg hs]
      exact Good.of 15 0 0 sm em gs ps ng n g p (by decide) (a2) (fun _ => a3 (by decide)) (fun h => absurd h (by decide)) (fun _ => a5 (by decide)) (fun _ h => absurd h (by decide)) (fun _ => a7 (by decide)) (a8) (fun _ h => absurd h (by decide)) (fun _ h => absurd h (by decide)) (fun h => absurd h (by decide)) (fun h => absurd h (by decide)) (fun _ => hf) (fun _ h => absurd h (by decide)) (fun _ => by have e := b3 (by decide); rw [e] at hs ⊢; simp only [List.length_nil] at hs ⊢; omega) (b7) (fun _ h => absurd h (by decide)) (fun _ h => absurd h (by decide)) (fun _ h => absurd h (by decide)) (fun h => absurd h (by decide)) (fun h => absurd h (by decide))
  · have hf : hasG gs (n : Int) = true ∧ (aheadP ps).1 ≤ (n : Int) := by simpa [fits] using hf
    exact Good.of 11 0 0 sm em gs ps ng np g ((n : Int), 0, false, 0, 0) (by decide) (a2) (fun _ => a3 (by decide)) (fun h => absurd h (by decide)) (fun _ => a5 (by decide)) (fun _ h => absurd h (by decide)) (fun _ => a7 (by decide)) (a8) (fun _ h => absurd h (by decide)) (fun _ h => absurd h (by decide)) (fun h => absurd h (by decide)) (fun h => absurd h (by decide)) (fun _ => b4 (by decide)) (fun _ _ => b5 (by decide) (by decide)) (fun h => absurd h (by decide)) (b7) (fun _ _ => ⟨hf.1, hf.2⟩) (fun h _ => absurd h (by decide)) (fun _ _ => ⟨rfl, rfl⟩) (fun h => absurd h (by decide)) (fun h => absurd h (by decide))
  · have hf : hasG gs (n : Int) = true ∧ ((aheadP ps).1 < p.1 ∨ (aheadP ps).2.1 < (n : Int)) := by simpa [fits] using hf
    exact Good.of 12 0 0 sm em gs ps ng np g (p.1, (n : Int), p.2.2.1, p.2.2.2.1, p.2.2.2.2) (by decide) (a2) (fun _ => a3 (by decide)) (fun h => absurd h (by decide)) (fun _ => a5 (by decide)) (fun _ h => absurd h (by decide)) (fun _ => a7 (by decide)) (a8) (fun _ h => absurd h (by decide)) (fun _ h => absurd h (by decide)) (fun h => absurd h (by decide)) (fun h => absurd h (by decide)) (fun _ => b4 (by decide)) (fun _ _ => b5 (by decide) (by decide)) (fun h => absurd h (by decide)) (b7) (fun _ _ => b8 (by decide) (by decide)) (fun _ _ => ⟨hf.1, hf.2⟩) (fun _ _ => c1 (by decide) (by decide)) (fun h => absurd h (by decide)) (fun h => absurd h (by decide))
  · have hf : n = 1 ∨ n = 2 := by simpa [fits] using hf
    by_cases hs : decide (n = 1) = true
    · rw [show after (put ⟨12, nu, bs, sm, em, gs, ps, ng, np, g, p⟩ n) = 13 from if_pos hs]
      exact Good.of 13 0 0 sm em gs ps ng np g (p.1, p.2.1, decide (n = 1), p.2.2.2.1, p.2.2.2.2) (by decide) (a2) (fun _ => a3 (by decide)) (fun h => absurd h (by decide)) (fun _ => a5 (by decide)) (fun _ h => absurd h (by decide)) (fun _ => a7 (by decide)) (a8) (fun _ h => absurd h (by decide)) (fun _ h => absurd h (by decide)) (fun h => absurd h (by decide)) (fun h => absurd h (by decide)) (fun _ => b4 (by decide)) (fun _ _ => b5 (by decide) (by decide)) (fun h => absurd h (by decide)) (b7) (fun _ _ => b8 (by decide) (by decide)) (fun _ _ => b9 (by decide) (by decide)) (fun _ _ => c1 (by decide) (by decide)) (fun _ => hs) (fun h => absurd h (by decide))
    · rw [show after (put ⟨12, nu, bs, sm, em, gs, ps, ng, np, g, p⟩ n) = 14 from if_neg hs]
      have hs := isb hs
      exact Good.of 14 0 0 sm em gs ps ng np g (p.1, p.2.1, decide (n = 1), p.2.2.2.1, p.2.2.2.2) (by decide) (a2) (fun _ => a3 (by decide)) (fun h => absurd h (by decide)) (fun _ => a5 (by decide)) (fun _ h => absurd h (by decide)) (fun _ => a7 (by decide)) (a8) (fun _ h => absurd h (by decide)) (fun _ h => absurd h (by decide)) (fun h => absurd h (by decide)) (fun h => absurd h (by decide)) (fun _ => b4 (by decide)) (fun _ _ => b5 (by decide) (by decide)) (fun h => absurd h (by decide)) (b7) (fun _ _ => b8 (by decide) (by decide)) (fun _ _ => b9 (by decide) (by decide)) (fun _ _ => c1 (by decide) (by decide)) (fun h => absurd h (by decide)) (fun _ => hs)
  · have hf : hasG gs (n : Int) = true := by simpa [fits] using hf
    have hok : prOK gs none (ps ++ [(p.1, p.2.1, p.2.2.1, (n : Int), p.2.2.2.2)]) = true := by
      rw [prOK_snoc, b7, Bool.true_and]
      have e1 := b8 (by decide) (by decide)
      have e2 := b9 (by decide) (by decide)
      have e3 := c1 (by decide) (by decide)
      have e4 := c2 rfl
      refine okP_of ?_ e1.2 e2.2
      simp only [pairOK, e1.1, e2.1, e4, hf, e3.2]
      simp
    by_cases hs : (ps ++ [(p.1, p.2.1, p.2.2.1, (n : Int), p.2.2.2.2)]).length < np
    · rw [show after (put ⟨13, nu, bs, sm, em, gs, ps, ng, np, g, p⟩ n) = 10 from if_pos hs]
      exact Good.of 10 0 0 sm em gs (ps ++ [(p.1, p.2.1, p.2.2.1, (n : Int), p.2.2.2.2)]) ng np g (p.1, p.2.1, p.2.2.1, (n : Int), p.2.2.2.2) (by decide) (a2) (fun _ => a3 (by decide)) (fun h => absurd h (by decide)) (fun _ => a5 (by decide)) (fun _ h => absurd h (by decide)) (fun _ => a7 (by decide)) (a8) (fun _ h => absurd h (by decide)) (fun _ h => absurd h (by decide)) (fun h => absurd h (by decide)) (fun h => absurd h (by decide)) (fun _ => b4 (by decide)) (fun _ _ => hs) (fun h => absurd h (by decide)) (hok) (fun h _ => absurd h (by decide)) (fun h _ => absurd h (by decide)) (fun h _ => absurd h (by decide)) (fun h => absurd h (by decide)) (fun h => absurd h (by decide))
    · rw [show after (put ⟨13, nu, bs, sm, em, gs, ps, ng, np, g, p⟩ n) = 15 from if_neg hs]
      exact Good.of 15 0 0 sm em gs (ps ++ [(p.1, p.2.1, p.2.2.1, (n : Int), p.2.2.2.2)]) ng np g (p.1, p.2.1, p.2.2.1, (n : Int), p.2.2.2.2) (by decide) (a2) (fun _ => a3 (by decide)) (fun h => absurd h (by decide)) (fun _ => a5 (by decide)) (fun _ h => absurd h (by decide)) (fun _ => a7 (by decide)) (a8) (fun _ h => absurd h (by decide)) (fun _ h => absurd h (by decide)) (fun h => absurd h (by decide)) (fun h => absurd h (by decide)) (fun _ => b4 (by decide)) (fun _ h => absurd h (by decide)) (fun _ => by have e := b5 (by decide) (by decide); simp only [List.length_append, List.length_singleton] at hs ⊢; omega) (hok) (fun _ h => absurd h (by decide)) (fun _ h => absurd h (by decide)) (fun _ h => absurd h (by decide)) (fun h => absurd h (by decide)) (fun h => absurd h (by decide))
  · have hf : mayK ⟨14, nu, bs, sm, em, gs, ps, ng, np, g, p⟩ ((n : Int) - 32768) = true := by simpa [fits] using hf
    have hok : prOK gs none (ps ++ [(p.1, p.2.1, p.2.2.1, p.2.2.2.1, (n : Int) - 32768)]) = true := by
      rw [prOK_snoc, b7, Bool.true_and]
      have e1 := b8 (by decide) (by decide)
      have e2 := b9 (by decide) (by decide)
      have e3 := c1 (by decide) (by decide)
      have e4 := c3 rfl
      refine okP_of ?_ e1.2 e2.2
      simp only [mayK, Bool.and_eq_true, decide_eq_true_eq] at hf
      obtain ⟨f1, f2, f3⟩ := hf
      simp only [pairOK, e1.1, e2.1, e4, e3.1, kernOK, decide_eq_true f1, decide_eq_true f2, decide_eq_true f3]
      simp
    by_cases hs : (ps ++ [(p.1, p.2.1, p.2.2.1, p.2.2.2.1, (n : Int) - 32768)]).length < np
    · rw [show after (put ⟨14, nu, bs, sm, em, gs, ps, ng, np, g, p⟩ n) = 10 from if_pos hs]
      exact Good.of 10 0 0 sm em gs (ps ++ [(p.1, p.2.1, p.2.2.1, p.2.2.2.1, (n : Int) - 32768)]) ng np g (p.1, p.2.1, p.2.2.1, p.2.2.2.1, (n : Int) - 32768) (by decide) (a2) (fun _ => a3 (by decide)) (fun h => absurd h (by decide)) (fun _ => a5 (by decide)) (fun _ h => absurd h (by decide)) (fun _ => a7 (by decide)) (a8) (fun _ h => absurd h (by decide)) (fun _ h => absurd h (by decide)) (fun h => absurd h (by decide)) (fun h => absurd h (by decide)) (fun _ => b4 (by decide)) (fun _ _ => hs) (fun h => absurd h (by decide)) (hok) (fun h _ => absurd h (by decide)) (fun h _ => absurd h (by decide)) (fun h _ => absurd h (by decide)) (fun h => absurd h (by decide)) (fun h => absurd h (by decide))
    · rw [show after (put ⟨14, nu, bs, sm, em, gs, ps, ng, np, g, p⟩ n) = 15 from if_neg hs]
      exact Good.of 15 0 0 sm em gs (ps ++ [(p.1, p.2.1, p.2.2.1, p.2.2.2.1, (n : Int) - 32768)]) ng np g (p.1, p.2.1, p.2.2.1, p.2.2.2.1, (n : Int) - 32768) (by decide) (a2) (fun _ => a3 (by decide)) (fun h => absurd h (by decide)) (fun _ => a5 (by decide)) (fun _ h => absurd h (by decide)) (fun _ => a7 (by decide)) (a8) (fun _ h => absurd h (by decide)) (fun _ h => absurd h (by decide)) (fun h => absurd h (by decide)) (fun h => absurd h (by decide)) (fun _ => b4 (by decide)) (fun _ h => absurd h (by decide)) (fun _ => by have e := b5 (by decide) (by decide); simp only [List.length_append, List.length_singleton] at hs ⊢; omega) (hok) (fun _ h => absurd h (by decide)) (fun _ h => absurd h (by decide)) (fun _ h => absurd h (by decide)) (fun h => absurd h (by decide)) (fun h => absurd h (by decide))
  · skip
    exact Good.of 16 0 0 sm em gs ps ng np g p (by decide) (a2) (fun _ => a3 (by decide)) (fun h => absurd h (by decide)) (fun _ => a5 (by decide)) (fun _ h => absurd h (by decide)) (fun _ => a7 (by decide)) (a8) (fun _ h => absurd h (by decide)) (fun _ h => absurd h (by decide)) (fun h => absurd h (by decide)) (fun h => absurd h (by decide)) (fun _ => b4 (by decide)) (fun _ h => absurd h (by decide)) (fun _ => b6 (by decide)) (b7) (fun _ h => absurd h (by decide)) (fun _ h => absurd h (by decide)) (fun _ h => absurd h (by decide)) (fun h => absurd h (by decide)) (fun h => absurd h (by decide))
  · exact absurd hf (by simp [fits])

theorem Good.nxt {s : St} (G : Good s) (hf : fits s s.nu = true) : Good (nxt s) := G.settle hf
theorem Num.zero (s : St) (k : Nat) (h : 1 ≤ sz k) : Num { s with nx := k, nu := 0, bs := 0 } := ⟨by show 0 < sz k; omega, by show 0 < 256 ^ 0; decide⟩
theorem szn (k : Nat) : 1 ≤ sz k := by unfold sz; split <;> decide
theorem Num.one {s : St} (N : Num s) {c : Nat} (hc : c < 256) (h : s.bs + 1 < sz s.nx) : Num (one s c) := ⟨h, by
  show s.nu * 256 + c < 256 ^ (s.bs + 1)
  rw [Nat.pow_succ]
  have := N.nu
  omega⟩
theorem Good.first {s : St} (G : Good s) (c : Nat) (hw : ∀ a b, wit a b < 4294967296) : Good (one s c) := by
  obtain ⟨a1, a2, a3, a4, a5, a6, a7, a8, a9, b1, b2, b3, b4, b5, b6, b7, b8, b9, c1, c2, c3⟩ := G
  refine ⟨a1, ?_, a3, a4, a5, a6, a7, a8, a9, b1, b2, b3, b4, b5, b6, b7, b8, b9, c1, c2, c3⟩
  show (if s.nx = 15 then s.sm else wit s.sm c) < 4294967296
  split
  · exact a2
  · exact hw _ _
/-- a byte more, and all goes on holding -/
theorem took {s s' : St} {c : Nat} (G : Good s) (N : Num s) (hc : c < 256) (h : tk s c = some s') : Good s' ∧ Num s' := by
  unfold tk at h
  have hw : ∀ a b, wit a b < 4294967296 := fun a b => Nat.mod_lt _ (by decide)
  split at h
  · rename_i hl
    cases h
    exact ⟨G.first c hw, N.one hc hl⟩
  · split at h
    · rename_i hf
      cases h
      exact ⟨(G.first c hw).nxt hf, Num.zero _ _ (szn _)⟩
    · cases h
theorem good0 : Good st0 ∧ Num st0 := by
  refine ⟨Good.of 0 0 0 2166136261 0 [] [] 0 0 (0, 0, 0, 0) (0, 0, false, 0, 0) ?_ ?_ ?_ ?_ ?_ ?_ ?_ ?_ ?_ ?_ ?_ ?_ ?_ ?_ ?_ ?_ ?_ ?_ ?_ ?_ ?_, ⟨by decide, by decide⟩⟩
  all_goals first | decide | (intros; first | rfl | omega)
end Go.Proofs.Ytdinlaoimpoolaa
