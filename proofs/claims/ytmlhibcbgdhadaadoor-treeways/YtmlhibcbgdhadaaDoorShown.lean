/- The examples hold. -/
import Derived.Test.YtmlhibcbgdhadaaDoorPlainM
import Derived.Test.YtmlhibcbgdhadaaDoorSame
namespace Go.Proofs.YtmlhibcbgdhadaaDoor
open Go.RowKit

theorem fitN {x : Nd} (hx : x ∈ plainN) : Fit x := by
  simp only [plainN, List.mem_cons, List.not_mem_nil, or_false] at hx
  rcases hx with rfl | rfl | rfl | rfl | rfl | rfl
  all_goals exact ⟨by unfold I64; decide, by unfold I64; decide, by unfold I64; decide, by unfold I64; decide, by unfold I64; decide, by unfold I64; decide, by unfold I64; decide, by unfold I64; decide, by unfold I64; decide, by unfold I64; decide, by unfold I64; decide, by decide, by decide⟩
theorem fit2 {x : Nd} (hx : x ∈ plain2) : Fit x := by
  simp only [plain2, plainN, List.set_cons_succ, List.set_cons_zero, List.mem_cons, List.not_mem_nil, or_false] at hx
  rcases hx with rfl | rfl | rfl | rfl | rfl | rfl
  all_goals exact ⟨by unfold I64; decide, by unfold I64; decide, by unfold I64; decide, by unfold I64; decide, by unfold I64; decide, by unfold I64; decide, by unfold I64; decide, by unfold I64; decide, by unfold I64; decide, by unfold I64; decide, by unfold I64; decide, by decide, by decide⟩
theorem plain_fit {x : Nd × Value} {h : Nat} (hx : x ∈ plainX h) : Fit x.1 := fitN (by rw [← plain_nds h]; exact List.mem_map_of_mem hx)
def plainY (h : Nat) : List (Nd × Value) := (plainX h).set 5 (⟨5, 4, 0, 0, 0, { data := #[] }, 0, 0, 0, 0, 0, 0, []⟩, .slice none 0 0)
theorem plainY_nds (h : Nat) : nds (plainY h) = plain2 := rfl
theorem plainY_fit {x : Nd × Value} {h : Nat} (hx : x ∈ plainY h) : Fit x.1 := fit2 (by rw [← plainY_nds h]; exact List.mem_map_of_mem hx)
/-- the plain document, wherever it lies -/
structure PL (W : World) (b : Nat) : Prop where
  ex : ∃ h, b = h + 3 ∧ NL W W.heap.size (some ⟨b, 0, none⟩) (plainX h)
theorem PL.still {W W' : World} {b : Nat} (h : PL W b) (o : Only [] W W') : PL W' b := by
  obtain ⟨k, e, hn⟩ := h.ex
  exact ⟨k, e, (hn.still o).mono o.size⟩
theorem plain_pl (w : World) : Calls Tryd.prog 26 #[] w fun e w' => e = .returned (.slice (some ⟨w.heap.size + 3, 0, none⟩) 6 6) ∧ Only [] w w' ∧ PL w' (w.heap.size + 3) ∧ Blk w' (w.heap.size + 3) ((plainX w.heap.size).flatMap ndc) 42 :=
  (plain_any w).mono fun _ _ ⟨h1, h2, h3, h4⟩ => ⟨h1, h2, ⟨⟨_, rfl, h4⟩⟩, h3⟩
theorem pl_check {W : World} {b : Nat} (h : PL W b) (hT : Tt W) : Calls Tryd.prog 12 #[.slice (some ⟨b, 0, none⟩) 6 6] W fun e w' => e = .returned (.tuple #[.int .i64 0, .int .i64 0]) ∧ Only [] W w' := by
  obtain ⟨k, -, hn⟩ := h.ex
  have := check_any (cap := 6) (show (plainX k).length ≤ 4294967296 by show 6 ≤ 4294967296; decide) (fun x hx => plain_fit hx) W hn (Nat.le_refl _) hT
  rw [plain_nds, plain_chk] at this
  exact this
theorem pl_print {W : World} {b : Nat} (h : PL W b) (hT : Tt W) : Calls Tryd.prog 13 #[.slice (some ⟨b, 0, none⟩) 6 6] W fun e w' => e = .returned (.tuple #[.string (strN plainT), .int .i64 0]) ∧ Only [] W w' := by
  obtain ⟨k, -, hn⟩ := h.ex
  have := print_c (cap := 6) (show (plainX k).length ≤ 4294967296 by show 6 ≤ 4294967296; decide) (fun x hx => plain_fit hx) (by rw [plain_nds, plain_sum]; decide) W hn (Nat.le_refl _) hT
  have e : prtV (nds (plainX k)) = .tuple #[.string (strN plainT), .int .i64 0] := by rw [plain_nds]; unfold prtV; rw [plain_chk, plain_prt]; rfl
  rw [e] at this
  exact this.mono fun _ _ ⟨h1, h2⟩ => ⟨h1, Only.ofBelow h2⟩
theorem pl_kids {W : World} {b : Nat} (h : PL W b) (hT : Tt W) : Calls Tryd.prog 20 #[.slice (some ⟨b, 0, none⟩) 6 6, .int .i64 1] W fun e w' => (∃ v, e = .returned v ∧ RI w' W.heap.size v [2, 3, 5]) ∧ Only [] W w' := by
  obtain ⟨k, -, hn⟩ := h.ex
  have := kids_c (cap := 6) 1 (show (plainX k).length ≤ 4294967296 by show 6 ≤ 4294967296; decide) (fun x hx => plain_fit hx) W hn (Nat.le_refl _) hT
  rw [plain_nds, plain_kids] at this
  exact this.mono fun _ _ ⟨v, h1, h2, h3⟩ => ⟨⟨v, h1, h2⟩, h3⟩
theorem pl_path4 {W : World} {b : Nat} (h : PL W b) (hT : Tt W) : Calls Tryd.prog 21 #[.slice (some ⟨b, 0, none⟩) 6 6, .int .i64 4] W fun e w' => (∃ v, e = .returned v ∧ RI w' W.heap.size v [0, 1, 3, 4]) ∧ Only [] W w' := by
  obtain ⟨k, -, hn⟩ := h.ex
  have := paths_c (cap := 6) 4 (show (plainX k).length ≤ 4294967296 by show 6 ≤ 4294967296; decide) (fun x hx => plain_fit hx) W hn (Nat.le_refl _) hT
  rw [plain_nds, plain_path4] at this
  exact this.mono fun _ _ ⟨v, h1, h2, h3⟩ => ⟨⟨v, h1, h2⟩, h3⟩
theorem pl_path9 {W : World} {b : Nat} (h : PL W b) (hT : Tt W) : Calls Tryd.prog 21 #[.slice (some ⟨b, 0, none⟩) 6 6, .int .i64 9] W fun e w' => (∃ v, e = .returned v ∧ RI w' W.heap.size v []) ∧ Only [] W w' := by
  obtain ⟨k, -, hn⟩ := h.ex
  have := paths_c (cap := 6) 9 (show (plainX k).length ≤ 4294967296 by show 6 ≤ 4294967296; decide) (fun x hx => plain_fit hx) W hn (Nat.le_refl _) hT
  rw [plain_nds, plain_path9] at this
  exact this.mono fun _ _ ⟨v, h1, h2, h3⟩ => ⟨⟨v, h1, h2⟩, h3⟩
theorem pl_same {W : World} {b c : Nat} (h : PL W b) (h' : PL W c) : Calls Tryd.prog 18 #[.slice (some ⟨b, 0, none⟩) 6 6, .slice (some ⟨c, 0, none⟩) 6 6] W fun e w' => e = .returned (.bool true) ∧ Only [] W w' := by
  obtain ⟨k, -, hn⟩ := h.ex
  obtain ⟨k', -, hn'⟩ := h'.ex
  have := treeSame_any (ac := 6) (bc := 6) W hn hn' (fun x hx => plain_fit hx) (fun x hx => plain_fit hx) (show (plainX k).length ≤ 4294967296 by show 6 ≤ 4294967296; decide) (show (plainX k').length ≤ 4294967296 by show 6 ≤ 4294967296; decide)
  rw [plain_nds, plain_nds, plain_same] at this
  exact this
/-- the other one, whose last Parent is 4 -/
structure PM (W : World) (b : Nat) : Prop where
  ex : ∃ h, b = h + 3 ∧ NL W W.heap.size (some ⟨b, 0, none⟩) (plainY h)
theorem PM.still {W W' : World} {b : Nat} (h : PM W b) (o : Only [] W W') : PM W' b := by
  obtain ⟨k, e, hn⟩ := h.ex
  exact ⟨k, e, (hn.still o).mono o.size⟩
theorem pm_check {W : World} {b : Nat} (h : PM W b) (hT : Tt W) : Calls Tryd.prog 12 #[.slice (some ⟨b, 0, none⟩) 6 6] W fun e w' => e = .returned (.tuple #[.int .i64 5, .int .i64 90]) ∧ Only [] W w' := by
  obtain ⟨k, -, hn⟩ := h.ex
  have := check_any (cap := 6) (show (plainY k).length ≤ 4294967296 by show 6 ≤ 4294967296; decide) (fun x hx => plainY_fit hx) W hn (Nat.le_refl _) hT
  rw [plainY_nds, plain2_chk] at this
  exact this
theorem pm_same {W : World} {b c : Nat} (h : PL W b) (h' : PM W c) : Calls Tryd.prog 18 #[.slice (some ⟨b, 0, none⟩) 6 6, .slice (some ⟨c, 0, none⟩) 6 6] W fun e w' => e = .returned (.bool false) ∧ Only [] W w' := by
  obtain ⟨k, -, hn⟩ := h.ex
  obtain ⟨k', -, hn'⟩ := h'.ex
  have := treeSame_any (ac := 6) (bc := 6) W hn hn' (fun x hx => plain_fit hx) (fun x hx => plainY_fit hx) (show (plainX k).length ≤ 4294967296 by show 6 ≤ 4294967296; decide) (show (plainY k').length ≤ 4294967296 by show 6 ≤ 4294967296; decide)
  rw [plain_nds, plainY_nds, plain_diff] at this
  exact this
theorem pm_of {W : World} {h : Nat} (hb : Blk W (h + 3) ((plainX h).flatMap ndc) 42) (hp : PL W (h + 3)) : PM (W.setCell ⟨h + 3, 66, none⟩ (.int .i64 4)) (h + 3) := by
  obtain ⟨k, e, hn⟩ := hp.ex
  have hk : k = h := by omega
  subst hk
  have hset : Only [k + 3] W (W.setCell ⟨k + 3, 66, none⟩ (.int .i64 4)) := (Only.refl [k + 3] W).set (.inl (by simp)) _
  have hb2 := hb.set 66 (.int .i64 4)
  refine ⟨⟨k, rfl, fun _ => ⟨k + 3, 0, rfl, hb2.lt, hb2.at_⟩, fun x hx => ?_⟩⟩
  have key : ∀ x ∈ plainX k, ∀ (cv : Cv W W.heap.size x), (∀ b off, ∀ n c, x.2 = .slice (some ⟨b, off, none⟩) n c → b ≠ k + 3) → Cv (W.setCell ⟨k + 3, 66, none⟩ (.int .i64 4)) (W.setCell ⟨k + 3, 66, none⟩ (.int .i64 4)).heap.size x := by
    rintro x - ⟨ca, cap, e, hs⟩ hne
    refine ⟨ca, cap, e, fun h0 => ?_⟩
    obtain ⟨b, off, e2, hb3, ha⟩ := hs h0
    subst e2
    exact ⟨b, off, rfl, Nat.lt_of_lt_of_le hb3 hset.size, ha.keep hset (by simp; exact hne b off _ _ e)⟩
  have hcv := hn.cv
  simp only [plainY, plainX, List.set_cons_succ, List.set_cons_zero, List.mem_cons, List.not_mem_nil, or_false] at hx
  have m := fun i (hi : i < 6) => hcv ((plainX k)[i]'hi) (List.getElem_mem _)
  rcases hx with rfl | rfl | rfl | rfl | rfl | rfl
  · exact key _ (List.getElem_mem (l := plainX k) (n := 0) (by show 0 < 6; decide)) (m 0 (by decide)) (by rintro b off n c h; cases h)
  · exact key _ (List.getElem_mem (l := plainX k) (n := 1) (by show 1 < 6; decide)) (m 1 (by decide)) (by rintro b off n c h; cases h)
  · exact key _ (List.getElem_mem (l := plainX k) (n := 2) (by show 2 < 6; decide)) (m 2 (by decide)) (by rintro b off n c h; injection h with h1; injection h1 with h1; injection h1 with h1; omega)
  · exact key _ (List.getElem_mem (l := plainX k) (n := 3) (by show 3 < 6; decide)) (m 3 (by decide)) (by rintro b off n c h; cases h)
  · exact key _ (List.getElem_mem (l := plainX k) (n := 4) (by show 4 < 6; decide)) (m 4 (by decide)) (by rintro b off n c h; injection h with h1; injection h1 with h1; injection h1 with h1; omega)
  · exact ⟨none, 0, rfl, fun h => absurd rfl h⟩
end Go.Proofs.YtmlhibcbgdhadaaDoor
