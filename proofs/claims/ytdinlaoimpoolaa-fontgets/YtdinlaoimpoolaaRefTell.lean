/- The reference's reader with what was found by the way. -/
import Derived.Test.YtdinlaoimpoolaaRefOne
namespace Go.Proofs.Ytdinlaoimpoolaa
open Go.RowKit

set_option maxRecDepth 100000 in
set_option maxHeartbeats 8000000 in
theorem number_bd (r mb : Nat) (b : ByteArray) (RES : M × ((Int × Nat) ⊕ St)) (wide : Nat) (hw1 : 1 ≤ wide) (w : World) (h : Bd r mb b RES w) :
    Calls Try.prog 36 #[.pointer (some ⟨r, 0, none⟩), .int .i64 wide] w fun e w' => e = .returned (.int .i64 0) ∧ w' = w := by
  obtain ⟨i, a, e, m, hrs, hok, hle, he, hres⟩ := h
  have HF := hid (fine_any r mb b i e a m w hrs)
  have hk : (e == 0) = false := by simpa using he
  rw [hk] at HF
  have hlt' : (0 : Int) < (wide : Int) := by omega
  clear hrs hok hle he hres hk
  go_enter Try.func36, Try.ntmps36
  go_wp2_with fail
  refine wp_loop_rounds 1 ?_
  rw [rounds_succ]
  go_wp2_with (go_at_call 38; refine HF.out.mono ?_; rintro e' w' ⟨rfl, rfl⟩)
  go_ret
  exact ⟨rfl, rfl⟩
section
variable (F : Prop) (r mb : Nat) (b : ByteArray) (RES : M × ((Int × Nat) ⊕ St))
def TAF (s : St) (X : World) : Prop := (F ∧ ∃ i m, Ra r mb b RES s X i m) ∨ Bd r mb b RES X
def TPF (s : St) (n : Nat) (X : World) : Prop := (F ∧ ∃ i m, Pd r mb b RES s n X i m) ∨ (Bd r mb b RES X ∧ n = 0)
end
section
variable {F : Prop} {r mb : Nat} {b : ByteArray} {RES : M × ((Int × Nat) ⊕ St)} {s : St} {n : Nat} {W : World}
theorem TAF.ta (h : TAF F r mb b RES s W) : TA r mb b RES s W := h.elim (fun q => .inl q.2) .inr
theorem TPF.tp (h : TPF F r mb b RES s n W) : TP r mb b RES s n W := h.elim (fun q => .inl q.2) .inr
theorem TA.taf (h : TA r mb b RES s W) : TAF True r mb b RES s W := h.elim (fun q => .inl ⟨trivial, q⟩) .inr
theorem TAF.below {W' : World} (h : TAF F r mb b RES s W) (k : Below W.heap.size W W') : TAF F r mb b RES s W' := by
  rcases h with ⟨hF, i, m, h⟩ | h
  · exact .inl ⟨hF, i, m, h.below k⟩
  · exact .inr (h.below k)
theorem TPF.below {W' : World} (h : TPF F r mb b RES s n W) (k : Below W.heap.size W W') : TPF F r mb b RES s n W' := by
  rcases h with ⟨hF, i, m, h⟩ | ⟨h, h2⟩
  · exact .inl ⟨hF, i, m, h.below k⟩
  · exact .inr ⟨h.below k, h2⟩
theorem TPF.set (h : TPF F r mb b RES s n W) {c o : Nat} {xs : List Value} {t : TypeId} (hc : Blk W c xs t) (h1 : t ≠ 87) (h2 : t ≠ 74) (v : Value) : TPF F r mb b RES s n (W.setCell ⟨c, o, none⟩ v) := by
  rcases h with ⟨hF, i, m, h⟩ | ⟨⟨i, a, e, m, hb, hx⟩, hn⟩
  · exact .inl ⟨hF, i, m, h.rs.set hc h1 h2 v, h.ok, h.le, h.pos, h.res, h.sm⟩
  · exact .inr ⟨⟨i, a, e, m, hb.set hc h1 h2 v, hx⟩, hn⟩
theorem TAF.set (h : TAF F r mb b RES s W) {c o : Nat} {xs : List Value} {t : TypeId} (hc : Blk W c xs t) (h1 : t ≠ 87) (h2 : t ≠ 74) (v : Value) : TAF F r mb b RES s (W.setCell ⟨c, o, none⟩ v) := by
  rcases h with ⟨hF, i, m, h⟩ | ⟨i, a, e, m, hb, hx⟩
  · exact .inl ⟨hF, i, m, h.rs.set hc h1 h2 v, h.ok, h.le, h.at_, h.sm, h.nu, h.bs⟩
  · exact .inr ⟨i, a, e, m, hb.set hc h1 h2 v, hx⟩
end
theorem number_f (F : Prop) (r mb : Nat) (b : ByteArray) (RES : M × ((Int × Nat) ⊕ St)) (s : St) (wide : Nat) (hw : wide = sz s.nx) (h15 : s.nx ≤ 15) (hsz : b.size ≤ 9223372036854775807) (w : World) (h : TAF F r mb b RES s w) :
    Calls Try.prog 36 #[.pointer (some ⟨r, 0, none⟩), .int .i64 wide] w fun e w' => ∃ n : Nat, e = .returned (.int .i64 n) ∧ n < 4294967296 ∧ Only [r, mb] w w' ∧ Kp w w' ∧ TPF F r mb b RES s n w' := by
  rcases h with ⟨hF, h⟩ | h
  · refine (number_k r mb b RES s wide hw h15 hsz w (.inl h)).mono ?_
    rintro e w' ⟨n, h1, h2, h3, h4, h5⟩
    exact ⟨n, h1, h2, h3, h4, h5.elim (fun q => .inl ⟨hF, q⟩) .inr⟩
  · refine (number_bd r mb b RES wide (by rw [hw]; exact szn _) w h).mono ?_
    rintro e w' ⟨rfl, rfl⟩
    exact ⟨0, rfl, by decide, Only.refl _ _, fun _ _ _ _ _ k => k, .inr ⟨h, rfl⟩⟩
theorem must_f (F : Prop) (r mb : Nat) (b : ByteArray) (RES : M × ((Int × Nat) ⊕ St)) (s : St) (n : Nat) (ok : Bool) (w : World) (hx : s.nx ≠ 15) (hsz : b.size ≤ 9223372036854775807) (h : TPF F r mb b RES s n w) (hok : F → ok = fits (read s (sz s.nx) n) n) :
    Calls Try.prog 37 #[.pointer (some ⟨r, 0, none⟩), .bool ok] w fun e w' => e = .returned (.tuple #[]) ∧ Only [r, mb] w w' ∧ Kp w w' ∧ TAF (F ∧ ok = true) r mb b RES (g1 s n) w' := by
  have hb := h.tp.blocks
  rcases h with ⟨hF, i, m, h⟩ | ⟨⟨i, a, e0, m, hrs, hmo, hle, he, hres⟩, _⟩
  · cases hok' : ok with
    | true =>
      refine (must_st r mb b RES s n true w hx hsz (.inl ⟨i, m, h, by rw [← hok']; exact hok hF⟩)).mono ?_
      rintro e w' ⟨h1, h2, h3⟩
      exact ⟨h1, h2.mono (by intro q _ hq; simp at hq ⊢; exact .inl hq), kp_of hb h2 (by intro q hq; simp at hq; exact .inl hq), h3.elim (fun q => .inl ⟨⟨hF, rfl⟩, q⟩) .inr⟩
    | false =>
      have hr := h.res
      rw [← hok hF, hok'] at hr
      rw [if_neg (by decide)] at hr
      have hp := h.pos
      refine (must_any false r mb b i 0 0 m w h.rs (by have := h.le; omega)).mono ?_
      rintro e w' ⟨h1, h2, h3⟩
      simp only [true_and, if_true] at h2
      refine ⟨h1, h3.mono (by intro q _ hq; simp at hq ⊢; exact .inl hq), kp_of hb h3 (by intro q hq; simp at hq; exact .inl hq), .inr ⟨i, i - 1, 60, m, ?_, h.ok, h.le, by decide, ?_⟩⟩
      · rw [show ((i - 1 : Nat) : Int) = (i : Int) - 1 by omega]; exact h2
      · rw [hr]
        unfold bad
        rw [if_neg hx]
  · refine (must_any ok r mb b i e0 a m w hrs (by omega)).mono ?_
    rintro e w' ⟨h1, h2, h3⟩
    rw [if_neg (fun q => he q.2), if_neg (fun q => he q.2)] at h2
    exact ⟨h1, h3.mono (by intro q _ hq; simp at hq ⊢; exact .inl hq), kp_of hb h3 (by intro q hq; simp at hq; exact .inl hq), .inr ⟨i, a, e0, m, h2, hmo, hle, he, hres⟩⟩
/-- what fits for a pair's numbers -/
theorem fits10 {s : St} (hx : s.nx = 10) (n : Nat) : fits (read s (sz s.nx) n) n = (hasG s.gs n && decide ((aheadP s.ps).1 ≤ (n : Int))) := by
  have : (read s (sz s.nx) n).nx = 10 := hx
  unfold fits
  rw [this]
  rfl
theorem fits11 {s : St} (hx : s.nx = 11) (n : Nat) : fits (read s (sz s.nx) n) n = (hasG s.gs n && (decide ((aheadP s.ps).1 < s.p.1) || decide ((aheadP s.ps).2.1 < (n : Int)))) := by
  have : (read s (sz s.nx) n).nx = 11 := hx
  unfold fits
  rw [this]
  rfl
theorem fits12 {s : St} (hx : s.nx = 12) (n : Nat) : fits (read s (sz s.nx) n) n = (decide (n = 1) || decide (n = 2)) := by
  have : (read s (sz s.nx) n).nx = 12 := hx
  unfold fits
  rw [this]
  rfl
theorem fits13 {s : St} (hx : s.nx = 13) (n : Nat) : fits (read s (sz s.nx) n) n = hasG s.gs n := by
  have : (read s (sz s.nx) n).nx = 13 := hx
  unfold fits
  rw [this]
  rfl
theorem fits14 {s : St} (hx : s.nx = 14) (n : Nat) : fits (read s (sz s.nx) n) n = mayK s ((n : Int) - 32768) := by
  have : (read s (sz s.nx) n).nx = 14 := hx
  unfold fits
  rw [this]
  rfl
/-- the numbers' places -/
theorem g1_nu (s : St) (x : Nat) : (g1 s x).nu = 0 := rfl
theorem g1_10 {s : St} (hx : s.nx = 10) (hnu : s.nu = 0) (x : Nat) : (g1 s x).nx = 11 ∧ (g1 s x).gs = s.gs ∧ (g1 s x).ps = s.ps ∧ (g1 s x).em = s.em ∧ (g1 s x).ng = s.ng ∧ (g1 s x).np = s.np ∧ (g1 s x).p = ((x : Int), 0, false, 0, 0) := by
  obtain ⟨nx, nu, bs, sm, em, gs, ps, ng, np, g, p⟩ := s
  simp only at hx hnu
  subst hx; subst hnu
  refine ⟨rfl, rfl, rfl, rfl, rfl, rfl, ?_⟩
  simp [g1, nxt, read, put, sz]
theorem g1_11 {s : St} (hx : s.nx = 11) (hnu : s.nu = 0) (x : Nat) : (g1 s x).nx = 12 ∧ (g1 s x).gs = s.gs ∧ (g1 s x).ps = s.ps ∧ (g1 s x).em = s.em ∧ (g1 s x).ng = s.ng ∧ (g1 s x).np = s.np ∧ (g1 s x).p = (s.p.1, (x : Int), s.p.2.2.1, s.p.2.2.2.1, s.p.2.2.2.2) := by
  obtain ⟨nx, nu, bs, sm, em, gs, ps, ng, np, g, p⟩ := s
  simp only at hx hnu
  subst hx; subst hnu
  refine ⟨rfl, rfl, rfl, rfl, rfl, rfl, ?_⟩
  simp [g1, nxt, read, put, sz]
theorem g1_12 {s : St} (hx : s.nx = 12) (hnu : s.nu = 0) (x : Nat) : (g1 s x).nx = (if x = 1 then 13 else 14) ∧ (g1 s x).gs = s.gs ∧ (g1 s x).ps = s.ps ∧ (g1 s x).em = s.em ∧ (g1 s x).ng = s.ng ∧ (g1 s x).np = s.np ∧ (g1 s x).p = (s.p.1, s.p.2.1, decide (x = 1), s.p.2.2.2.1, s.p.2.2.2.2) := by
  obtain ⟨nx, nu, bs, sm, em, gs, ps, ng, np, g, p⟩ := s
  simp only at hx hnu
  subst hx; subst hnu
  refine ⟨?_, rfl, rfl, rfl, rfl, rfl, ?_⟩
  · simp [g1, nxt, read, put, sz, after]
  · simp [g1, nxt, read, put, sz]
theorem g1_13 {s : St} (hx : s.nx = 13) (hnu : s.nu = 0) (x : Nat) : (g1 s x).gs = s.gs ∧ (g1 s x).ps = s.ps ++ [(s.p.1, s.p.2.1, s.p.2.2.1, (x : Int), s.p.2.2.2.2)] ∧ (g1 s x).em = s.em ∧ (g1 s x).ng = s.ng ∧ (g1 s x).np = s.np ∧ (g1 s x).nx = (if s.ps.length + 1 < s.np then 10 else 15) := by
  obtain ⟨nx, nu, bs, sm, em, gs, ps, ng, np, g, p⟩ := s
  simp only at hx hnu
  subst hx; subst hnu
  refine ⟨rfl, ?_, rfl, rfl, rfl, ?_⟩
  · simp [g1, nxt, read, put, sz]
  · simp [g1, nxt, read, put, sz, after]
theorem g1_14 {s : St} (hx : s.nx = 14) (hnu : s.nu = 0) (x : Nat) : (g1 s x).gs = s.gs ∧ (g1 s x).ps = s.ps ++ [(s.p.1, s.p.2.1, s.p.2.2.1, s.p.2.2.2.1, (x : Int) - 32768)] ∧ (g1 s x).em = s.em ∧ (g1 s x).ng = s.ng ∧ (g1 s x).np = s.np ∧ (g1 s x).nx = (if s.ps.length + 1 < s.np then 10 else 15) := by
  obtain ⟨nx, nu, bs, sm, em, gs, ps, ng, np, g, p⟩ := s
  simp only at hx hnu
  subst hx; subst hnu
  refine ⟨rfl, ?_, rfl, rfl, rfl, ?_⟩
  · simp [g1, nxt, read, put, sz]
  · simp [g1, nxt, read, put, sz, after]
/-- the four numbers of a glyph -/
theorem g1_glyph {s : St} (hx : s.nx = 5) (hnu : s.nu = 0) (x0 x1 x2 x3 : Nat) : (g1 (g1 (g1 (g1 s x0) x1) x2) x3).gs = s.gs ++ [((x0 : Int), (x1 : Int), (x2 : Int), (x3 : Int))] ∧ (g1 (g1 (g1 (g1 s x0) x1) x2) x3).ps = s.ps ∧ (g1 (g1 (g1 (g1 s x0) x1) x2) x3).em = s.em ∧ (g1 (g1 (g1 (g1 s x0) x1) x2) x3).ng = s.ng ∧
    (g1 (g1 (g1 (g1 s x0) x1) x2) x3).nx = (if s.gs.length + 1 < s.ng then 5 else 9) := by
  obtain ⟨nx, nu, bs, sm, em, gs, ps, ng, np, g, p⟩ := s
  simp only at hx hnu
  subst hx; subst hnu
  refine ⟨?_, ?_, ?_, ?_, ?_⟩
  all_goals simp [g1, nxt, read, put, sz, after]
end Go.Proofs.Ytdinlaoimpoolaa
