/- Reading what was written: byte by byte there, and back. -/
import Derived.Test.YtdinlaoimpoolaaKept
import Derived.Test.YtdinlaoimpoolaaPuts
namespace Go.Proofs.Ytdinlaoimpoolaa
open Go.RowKit

/-- reading without a meter -/
def run (s : St) (i : Nat) : List Nat → (Int × Nat) ⊕ St
  | [] => .inr s
  | c :: cs => match tk s c with
    | none => .inl (bad s, i)
    | some s' => run s' (i + 1) cs
theorem run_append : ∀ (a b : List Nat) (s : St) (i : Nat), run s i (a ++ b) = (match run s i a with
    | .inl x => .inl x
    | .inr s' => run s' (i + a.length) b)
  | [], b, s, i => by simp [run]
  | c :: a, b, s, i => by
    rw [List.cons_append, run, run]
    cases tk s c with
    | none => rfl
    | some s' =>
      simp only []
      rw [run_append a b s' (i + 1), List.length_cons, show i + 1 + a.length = i + (a.length + 1) by omega]
theorem be_mod : ∀ (k n : Nat), be k (n % 256 ^ k) = be k n := by
  intro k
  have gen : ∀ (j k n : Nat), j ≤ k → be j (n % 256 ^ k) = be j n := by
    intro j
    induction j with
    | zero => intros; rfl
    | succ j ih =>
      intro k n h
      rw [be, be, ih k n (by omega)]
      congr 1
      obtain ⟨d, rfl⟩ : ∃ d, k = j + 1 + d := ⟨k - (j + 1), by omega⟩
      rw [Nat.pow_add, Nat.pow_succ, Nat.mul_assoc, Nat.mod_mul_right_div_self, Nat.mod_mul_right_mod]
  exact fun n => gen k k n (Nat.le_refl _)
theorem be_snoc (c : Nat) (hc : c < 256) : ∀ (k n : Nat), be (k + 1) (n * 256 + c) = be k n ++ [c]
  | 0, n => by
    simp only [be, Nat.pow_zero, Nat.div_one, List.nil_append]
    congr 1
    omega
  | k + 1, n => by
    rw [be, be_snoc c hc k n, be]
    have : (n * 256 + c) / 256 ^ (k + 1) = n / 256 ^ k := by
      rw [Nat.pow_succ, Nat.mul_comm (256 ^ k) 256, ← Nat.div_div_eq_div_mul]
      congr 1
      omega
    rw [this]
    rfl
theorem sumF_one (s c : Nat) : sumF s [c] = wit s c := by unfold sumF; rw [List.foldl_cons, List.foldl_nil]
theorem sumF_cons (s c : Nat) (l : List Nat) : sumF s (c :: l) = sumF (wit s c) l := by unfold sumF; rw [List.foldl_cons]
/-- a state behind so many bytes of one number -/
def read (s : St) (k n : Nat) : St := { s with nu := s.nu * 256 ^ k + n, bs := s.bs + k, sm := if s.nx = 15 then s.sm else sumF s.sm (be k n) }
theorem read_one (s : St) (n : Nat) (hn : n < 256) : read s 1 n = one s n := by
  have e : be 1 n = [n] := by
    simp only [be, Nat.pow_zero, Nat.div_one]
    congr 1
    omega
  unfold read one
  rw [e, sumF_one, Nat.pow_one]
theorem read_more (s : St) (j n : Nat) (hn : n < 256 ^ (j + 2)) : read (one s (n / 256 ^ (j + 1))) (j + 1) (n % 256 ^ (j + 1)) = read s (j + 2) n := by
  have hc : n / 256 ^ (j + 1) < 256 := Nat.div_lt_of_lt_mul (by rw [← Nat.pow_succ]; exact hn)
  unfold read one
  simp only
  have e1 : (s.nu * 256 + n / 256 ^ (j + 1)) * 256 ^ (j + 1) + n % 256 ^ (j + 1) = s.nu * 256 ^ (j + 2) + n := by
    have := Nat.div_add_mod n (256 ^ (j + 1))
    rw [Nat.add_mul, Nat.pow_succ 256 (j + 1), Nat.mul_comm (256 ^ (j + 1)) 256, Nat.mul_assoc, Nat.mul_comm (n / 256 ^ (j + 1))]
    omega
  have e2 : s.bs + 1 + (j + 1) = s.bs + (j + 2) := by omega
  rw [e1, e2, be_mod]
  by_cases h15 : s.nx = 15
  · rw [if_pos h15, if_pos h15, if_pos h15]
  · rw [if_neg h15, if_neg h15, if_neg h15, show be (j + 2) n = n / 256 ^ (j + 1) % 256 :: be (j + 1) n from rfl, Nat.mod_eq_of_lt hc, sumF_cons]
theorem bad_one (s : St) (c : Nat) : bad (one s c) = bad s := rfl
theorem run_be (rest : List Nat) : ∀ (j n : Nat) (s : St) (i : Nat), s.bs + (j + 1) = sz s.nx → n < 256 ^ (j + 1) →
    run s i (be (j + 1) n ++ rest) = (if fits (read s (j + 1) n) (read s (j + 1) n).nu = true then run (nxt (read s (j + 1) n)) (i + (j + 1)) rest else .inl (bad s, i + j))
  | 0, n, s, i, hb, hn => by
    have hn' : n < 256 := hn
    have e : be 1 n = [n] := by
      simp only [be, Nat.pow_zero, Nat.div_one]
      congr 1
      omega
    rw [show (0 : Nat) + 1 = 1 from rfl, read_one s n hn', e, List.cons_append, List.nil_append, run]
    have h1 : ¬ s.bs + 1 < sz s.nx := by omega
    by_cases hf : fits (one s n) (one s n).nu = true
    · have ht : tk s n = some (nxt (one s n)) := by unfold tk; rw [if_neg h1, if_pos hf]
      rw [ht, if_pos hf]
    · have ht : tk s n = none := by unfold tk; rw [if_neg h1, if_neg hf]
      rw [ht, if_neg hf]
      rfl
  | j + 1, n, s, i, hb, hn => by
    have hc : n / 256 ^ (j + 1) < 256 := Nat.div_lt_of_lt_mul (by rw [← Nat.pow_succ]; exact hn)
    have h1 : s.bs + 1 < sz s.nx := by omega
    have ht : tk s (n / 256 ^ (j + 1)) = some (one s (n / 256 ^ (j + 1))) := by unfold tk; rw [if_pos h1]
    rw [show be (j + 1 + 1) n = n / 256 ^ (j + 1) % 256 :: be (j + 1) n from rfl, Nat.mod_eq_of_lt hc, List.cons_append, run, ht]
    simp only []
    have hm : n % 256 ^ (j + 1) < 256 ^ (j + 1) := Nat.mod_lt _ (Nat.pow_pos (by decide))
    have ih := run_be rest j (n % 256 ^ (j + 1)) (one s (n / 256 ^ (j + 1))) (i + 1) (by show s.bs + 1 + (j + 1) = sz s.nx; omega) hm
    rw [be_mod, read_more s j n hn, bad_one] at ih
    rw [ih, show i + 1 + (j + 1) = i + (j + 1 + 1) by omega, show i + 1 + j = i + (j + 1) by omega]

/-- from this state on these bytes lead to that one -/
def Goes (s : St) (bs : List Nat) (s' : St) : Prop := ∀ (i : Nat) (rest : List Nat), run s i (bs ++ rest) = run s' (i + bs.length) rest
theorem Goes.trans {s t u : St} {a b : List Nat} (h : Goes s a t) (k : Goes t b u) : Goes s (a ++ b) u := fun i rest => by
  rw [List.append_assoc, h, k, List.length_append, Nat.add_assoc]
theorem Goes.nil (s : St) : Goes s [] s := fun _ _ => rfl
theorem Goes.run {s t : St} {a : List Nat} (h : Goes s a t) (i : Nat) : run s i a = .inr t := by
  have := h i []
  rw [List.append_nil] at this
  rw [this]; rfl
theorem goes_num (nx sm em : Nat) (gs : List Gl) (ps : List Pr) (ng np : Nat) (g : Gl) (p : Pr) (k n : Nat) (hk : sz nx = k + 1) (hn : n < 256 ^ (k + 1)) (h15 : nx ≠ 15)
    (hf : fits ⟨nx, n, k + 1, sumF sm (be (k + 1) n), em, gs, ps, ng, np, g, p⟩ n = true) :
    Goes ⟨nx, 0, 0, sm, em, gs, ps, ng, np, g, p⟩ (be (k + 1) n) (nxt ⟨nx, n, k + 1, sumF sm (be (k + 1) n), em, gs, ps, ng, np, g, p⟩) := fun i rest => by
  have h := run_be rest k n ⟨nx, 0, 0, sm, em, gs, ps, ng, np, g, p⟩ i (by show 0 + (k + 1) = sz nx; omega) hn
  have e : read ⟨nx, 0, 0, sm, em, gs, ps, ng, np, g, p⟩ (k + 1) n = ⟨nx, n, k + 1, sumF sm (be (k + 1) n), em, gs, ps, ng, np, g, p⟩ := by
    unfold read
    simp only [Nat.zero_mul, Nat.zero_add, if_neg h15]
  rw [e] at h
  rw [h, if_pos hf, be_len]
theorem sumF_app (s : Nat) (a b : List Nat) : sumF s (a ++ b) = sumF (sumF s a) b := by unfold sumF; rw [List.foldl_append]
theorem toN {x : Int} (h : 0 ≤ x) : ((x.toNat : Nat) : Int) = x := Int.toNat_of_nonneg h
/-- a glyph -/
theorem goes_glyph (sm em : Nat) (gs : List Gl) (ps : List Pr) (ng np : Nat) (g0 : Gl) (p : Pr) (g : Gl) (hw : widthI g.1 ≠ 0) (ha : (aheadG gs).1 < g.1) (hu : units g = true) :
    Goes ⟨5, 0, 0, sm, em, gs, ps, ng, np, g0, p⟩ (gb g) ⟨if (gs ++ [g]).length < ng then 5 else 9, 0, 0, sumF sm (gb g), em, gs ++ [g], ps, ng, np, g, p⟩ := by
  obtain ⟨r, w, h, d⟩ := g
  simp only at hw ha
  simp only [units, inU, Bool.and_eq_true, decide_eq_true_eq] at hu
  obtain ⟨⟨w0, w1⟩, ⟨h0, h1⟩, ⟨d0, d1⟩⟩ := hu
  obtain ⟨r0, r1⟩ := width_fit hw
  obtain ⟨r, rfl⟩ : ∃ n : Nat, r = (n : Int) := ⟨r.toNat, (toN r0).symm⟩
  obtain ⟨w, rfl⟩ : ∃ n : Nat, w = (n : Int) := ⟨w.toNat, (toN w0).symm⟩
  obtain ⟨h, rfl⟩ : ∃ n : Nat, h = (n : Int) := ⟨h.toNat, (toN h0).symm⟩
  obtain ⟨d, rfl⟩ : ∃ n : Nat, d = (n : Int) := ⟨d.toNat, (toN d0).symm⟩
  simp only [gb, Int.toNat_natCast]
  rw [sumF_app, sumF_app, sumF_app]
  have s1 := goes_num 5 sm em gs ps ng np g0 p 2 r rfl (by omega) (by decide) (by simp [fits, hw, ha])
  have s2 := goes_num 6 (sumF sm (be 3 r)) em gs ps ng np ((r : Int), 0, 0, 0) p 1 w rfl (by omega) (by decide) (by simp [fits]; omega)
  have s3 := goes_num 7 (sumF (sumF sm (be 3 r)) (be 2 w)) em gs ps ng np ((r : Int), (w : Int), 0, 0) p 1 h rfl (by omega) (by decide) (by simp [fits]; omega)
  have s4 := goes_num 8 (sumF (sumF (sumF sm (be 3 r)) (be 2 w)) (be 2 h)) em gs ps ng np ((r : Int), (w : Int), (h : Int), 0) p 1 d rfl (by omega) (by decide) (by simp [fits]; omega)
  exact s1.trans (s2.trans (s3.trans s4))
theorem goes_glyphs (em : Nat) (ps : List Pr) (ng np : Nat) (p : Pr) : ∀ (gs' gs : List Gl) (sm : Nat) (g0 : Gl), gs.length + gs'.length = ng → glOK (-1) (gs ++ gs') = true →
    ∃ g1, Goes ⟨if gs.length < ng then 5 else 9, 0, 0, sm, em, gs, ps, ng, np, g0, p⟩ (gs'.flatMap gb) ⟨9, 0, 0, sumF sm (gs'.flatMap gb), em, gs ++ gs', ps, ng, np, g1, p⟩
  | [], gs, sm, g0, hl, hk => by
    refine ⟨g0, ?_⟩
    simp only [List.length_nil] at hl
    rw [if_neg (by omega), List.append_nil]
    exact Goes.nil _
  | g :: gs', gs, sm, g0, hl, hk => by
    rw [List.length_cons] at hl
    have e : gs ++ g :: gs' = (gs ++ [g]) ++ gs' := by simp
    have hk2 : glOK (-1) (gs ++ [g]) = true := by
      have : ∀ (a : Int) (xs ys : List Gl), glOK a (xs ++ ys) = true → glOK a xs = true := by
        intro a xs
        induction xs generalizing a with
        | nil => intros; rfl
        | cons x xs ih =>
          intro ys h
          simp only [List.cons_append, glOK, Bool.and_eq_true] at h ⊢
          exact ⟨h.1, ih _ _ h.2⟩
      exact this _ _ gs' (by rw [← e]; exact hk)
    rw [glOK_snoc, ahead_last, Bool.and_eq_true] at hk2
    have hok := hk2.2
    simp only [okG, Bool.and_eq_true, decide_eq_true_eq] at hok
    have s1 := goes_glyph sm em gs ps ng np g0 p g hok.1 hok.2.1 hok.2.2
    obtain ⟨g1, s2⟩ := goes_glyphs em ps ng np p gs' (gs ++ [g]) (sumF sm (gb g)) g (by rw [List.length_append, List.length_singleton]; omega) (by rw [← e]; exact hk)
    refine ⟨g1, ?_⟩
    rw [if_pos (by omega), List.flatMap_cons, sumF_app, e]
    exact s1.trans s2
end Go.Proofs.Ytdinlaoimpoolaa
