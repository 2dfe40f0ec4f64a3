/- What is answered of a markup under a meter: token by token. And a scope with many labels. -/
import Derived.Test.YthlbbinlkmchjaaDoorChs
import Derived.Scope
namespace Go.Proofs.YthlbbinlkmchjaaDoor
open Go.RowKit

abbrev A := M × Except (Int × Int) (List Tk)
/-- from place p on, len bytes in all -/
def ans (len : Nat) : M → List Tk → Nat → List Tk → Option (Nat × Nat) → A
  | m, T, p, [], none => (m.step (len - p : Nat), if m.stepOk (len - p : Nat) = true then .ok T else .error (20, 0))
  | m, _, p, [], some x => (m.step ((if x.2 < len then x.2 + 1 else x.2) - p : Nat), .error (if m.stepOk ((if x.2 < len then x.2 + 1 else x.2) - p : Nat) = true then ((x.1 : Int), (x.2 : Int)) else (20, 0)))
  | m, T, p, t :: ts, flt => if m.stepOk (t.en - p : Nat) = true then
      (if (m.step (t.en - p : Nat)).holdOk 1 = true then ans len ((m.step (t.en - p : Nat)).hold 1) (T ++ [t]) t.en ts flt else ((m.step (t.en - p : Nat)).hold 1, .error (21, 0)))
    else (m.step (t.en - p : Nat), .error (20, 0))
def GS (s : ByteArray) (md p : Nat) : Out := GG md p (rest s p)
/-- what is answered from there on -/
def An (s : ByteArray) (m : M) (T : List Tk) (md p : Nat) : A := ans s.size m T p (GS s md p).1 (GS s md p).2

theorem GS_nil0 {s : ByteArray} {p : Nat} (h : (rest s p).head? = none) : GS s 0 p = ([], none) := by
  unfold GS GG
  rw [show rest s p = [] from List.head?_eq_none_iff.1 h]
  rfl
theorem GS_nil1 {s : ByteArray} {p : Nat} (md : Nat) (h : (rest s p).head? = none) : GS s (md + 1) p = ([], some (70, p)) := by
  unfold GS GG
  rw [show rest s p = [] from List.head?_eq_none_iff.1 h]
  rfl
theorem GS_part {s : ByteArray} {md p b : Nat} {P : Pz Tk} (h : (rest s p).head? = some b) (hP : part md p b = some P) :
    GS s md p = tokR p (P (rest s p)) fun m' _ n => GS s m' (p + n) := by
  obtain ⟨l, hl⟩ : ∃ l, rest s p = b :: l := by
    rcases hr : rest s p with _ | ⟨c, l⟩
    · rw [hr] at h; cases h
    · rw [hr] at h; simp at h; subst h; exact ⟨l, rfl⟩
  unfold GS GG
  rw [hl, List.length_cons, G_cons, hP]
  simp only
  rcases hr : P (b :: l) with ⟨k, n⟩ | ⟨t, n⟩
  · rfl
  · have h1 := part_goes hP hr
    have h2 := ok_le (part_fair hP) hr
    rw [tokR_ok, tokR_ok, ← rest_drop, hl]
    have hc : (b :: l).length = l.length + 1 := rfl
    rw [G_fuel (l.length + 1) (((b :: l).drop n).length + 1) (within t) (p + n) ((b :: l).drop n) (by rw [List.length_drop]; omega) (by omega)]
theorem GS_skip {s : ByteArray} {md p b : Nat} (h : (rest s p).head? = some b) (hP : part md p b = none) : GS s md p = GS s 2 (p + 1) := by
  obtain ⟨l, hl⟩ : ∃ l, rest s p = b :: l := by
    rcases hr : rest s p with _ | ⟨c, l⟩
    · rw [hr] at h; cases h
    · rw [hr] at h; simp at h; subst h; exact ⟨l, rfl⟩
  unfold GS GG
  rw [hl, List.length_cons, G_cons, hP]
  simp only
  rw [← rest_drop, hl]
  rfl
/-- behind a blank, where no letter stands -/
theorem GS_two {s : ByteArray} {p : Nat} (h : isLo (rest s p).head? = false) : GS s 2 p = GS s 1 p := by
  rcases hh : (rest s p).head? with _ | b
  · rw [GS_nil1 1 hh, GS_nil1 0 hh]
  · rw [hh] at h
    have hl : isL b = false := h
    unfold GS GG
    obtain ⟨l, hr⟩ : ∃ l, rest s p = b :: l := by
      rcases hr : rest s p with _ | ⟨c, l⟩
      · rw [hr] at hh; cases hh
      · rw [hr] at hh; simp at hh; subst hh; exact ⟨l, rfl⟩
    rw [hr, List.length_cons, G_cons, G_cons]
    have : part 2 p b = part 1 p b := by
      unfold part
      by_cases h1 : isB b = true
      · simp [h1]
      · by_cases h2 : b = 47 ∨ b = 62
        · simp [h1, h2]
        · simp [h1, h2, hl]
    rw [this]
theorem An_part {s : ByteArray} {m : M} (T : List Tk) {md p b : Nat} {P : Pz Tk} (h : (rest s p).head? = some b) (hP : part md p b = some P) :
    An s m T md p = match finT (fo s m p P) with
      | (m1, .ok x) => An s m1 (T ++ [x.1]) (within x.1) x.2
      | (m1, .error F) => (m1, .error F) := by
  have hlt : p < s.size := by
    rcases Nat.lt_or_ge p s.size with q | q
    · exact q
    · rw [rest_head, List.getElem?_eq_none (by rw [bl_length]; exact q)] at h; cases h
  have hle := (part_fair hP).le (rest s p)
  rw [rest_length] at hle
  unfold An
  rw [GS_part h hP]
  unfold fo
  rcases hr : P (rest s p) with ⟨k, n⟩ | ⟨t, n⟩
  · rw [hr] at hle
    simp only [R.n] at hle
    rw [tokR_bad]
    simp only [ans]
    have hu : (if p + n < s.size then p + n + 1 else p + n) - p = used (s.size - p) (Except.error (k, n) : R Tk) := by
      unfold used; simp only; split <;> split <;> omega
    rw [hu]
    rfl
  · rw [tokR_ok]
    simp only [ans, Nat.add_sub_cancel_left]
    rcases hs : m.stepOk (n : Nat) with _ | _
    · rw [fin_no hs, if_neg (by decide)]; rfl
    · rw [fin_yes hs, if_pos rfl]
      rcases hh : (m.step (n : Nat)).holdOk 1 with _ | _
      · rw [finT_no hh, if_neg (by decide)]
      · rw [finT_yes hh, if_pos rfl]
        rfl
/-- the first place that is told -/
theorem ans_step {len : Nat} {m : M} (hw : m.why = 0) (T : List Tk) (p : Nat) (hp : p + 1 ≤ len) (ts : List Tk) (flt : Option (Nat × Nat)) (h1 : ∀ t ∈ ts, p + 1 ≤ t.en) (h2 : ∀ k n, flt = some (k, n) → p + 1 ≤ n) :
    ans len m T p ts flt = if m.stepOk 1 = true then ans len (m.step 1) T (p + 1) ts flt else (m.step 1, .error (20, 0)) := by
  have key : ∀ e : Nat, p + 1 ≤ e → m.stepOk 1 = true → m.step (e - p : Nat) = (m.step 1).step (e - (p + 1) : Nat) ∧ m.stepOk (e - p : Nat) = (m.step 1).stepOk (e - (p + 1) : Nat) := by
    intro e he hs
    have := M.step_add hw (a := 1) (b := ((e - (p + 1) : Nat) : Int)) (by decide) (by omega) hs
    rw [show (1 : Int) + ((e - (p + 1) : Nat) : Int) = ((e - p : Nat) : Int) by omega] at this
    exact ⟨this.2.1, this.2.2⟩
  have key2 : ∀ e : Nat, p + 1 ≤ e → m.stepOk 1 = false → m.step (e - p : Nat) = m.step 1 ∧ m.stepOk (e - p : Nat) = false := by
    intro e he hs
    have := M.step_over hw (a := 1) (b := ((e - (p + 1) : Nat) : Int)) (by decide) (by omega) hs
    rw [show (1 : Int) + ((e - (p + 1) : Nat) : Int) = ((e - p : Nat) : Int) by omega] at this
    exact this
  rcases hs : m.stepOk 1 with _ | _
  · rw [if_neg (by decide)]
    rcases ts with _ | ⟨t, ts⟩
    · rcases flt with _ | ⟨k, n⟩
      · simp only [ans]
        rw [(key2 len hp hs).1, (key2 len hp hs).2, if_neg (by decide)]
      · have hn := h2 k n rfl
        simp only [ans]
        have hk := key2 (if n < len then n + 1 else n) (by split <;> omega) hs
        rw [hk.1, hk.2, if_neg (by decide)]
    · have ht := h1 t (by simp)
      simp only [ans]
      rw [(key2 t.en ht hs).1, (key2 t.en ht hs).2, if_neg (by decide)]
  · rw [if_pos rfl]
    rcases ts with _ | ⟨t, ts⟩
    · rcases flt with _ | ⟨k, n⟩
      · simp only [ans]
        rw [(key len hp hs).1, (key len hp hs).2]
      · have hn := h2 k n rfl
        simp only [ans]
        have hk := key (if n < len then n + 1 else n) (by split <;> omega) hs
        rw [hk.1, hk.2]
    · have ht := h1 t (by simp)
      simp only [ans]
      rw [(key t.en ht hs).1, (key t.en ht hs).2]
theorem An_skip {s : ByteArray} {m : M} (hw : m.why = 0) (T : List Tk) {md p b : Nat} (h : (rest s p).head? = some b) (hP : part md p b = none) :
    An s m T md p = if m.stepOk 1 = true then An s (m.step 1) T 2 (p + 1) else (m.step 1, .error (20, 0)) := by
  have hlt : p < s.size := by
    rcases Nat.lt_or_ge p s.size with q | q
    · exact q
    · rw [rest_head, List.getElem?_eq_none (by rw [bl_length]; exact q)] at h; cases h
  unfold An
  rw [GS_skip h hP]
  have hg := G_ge ((rest s (p + 1)).length + 1) 2 (p + 1) (rest s (p + 1))
  exact ans_step hw T p hlt _ _ (fun t ht => by have := hg.2 t ht; omega) (fun k n hkn => (hg.1 k n hkn).1)

/-! ### a scope with many labels -/
def jumps (J : Nat → Act → World → Prop) (Q : Exit → Act → World → Prop) : Exit → Act → World → Prop
  | .goto l, a, w => J l a w
  | e, a, w => Q e a w
theorem jumps_ret {J : Nat → Act → World → Prop} {Q : Exit → Act → World → Prop} {a : Act} {w : World} : jumps J Q .ret a w = Q .ret a w := rfl
theorem jumps_goto {J : Nat → Act → World → Prop} {Q : Exit → Act → World → Prop} {l : Nat} {a : Act} {w : World} : jumps J Q (.goto l) a w = J l a w := rfl
/-- at every jump to label l: J l, and the measure falls -/
theorem wp_labels {P : Program} {c : Code} {a : Act} {w : World} {Q : Exit → Act → World → Prop} (J : Nat → Act → World → Prop) (size : Nat → Act → World → Nat) (start : c.wp P (jumps J Q) a w)
    (again : ∀ l a w, J l a w → ∃ behind, findLabel c l = some behind ∧ behind.wp P (jumps (fun l' a' w' => J l' a' w' ∧ size l' a' w' < size l a w) Q) a w) : (Code.scope c).wp P Q a w := by
  intro b k cs
  have hin : ∀ l behind, findLabel c l = some behind → gotoIn l (.inScope c :: k) = some (.code behind :: .inScope c :: k) := fun l behind h => by
    unfold gotoIn
    rw [h]
  have from_ : ∀ (n l : Nat) (a : Act) (w : World), size l a w ≤ n → J l a w → ∃ behind, findLabel c l = some behind ∧ ∃ e a' w', Q e a' w' ∧ Arrives P (lone (b.at a (.code behind :: .inScope c :: k)) cs w) b k cs e a' w' := by
    intro n
    induction n with
    | zero =>
      intro l a w hn hJ
      obtain ⟨behind, hf, hwp⟩ := again l a w hJ
      refine ⟨behind, hf, ?_⟩
      obtain ⟨e, a₁, w₁, hq, harr⟩ := hwp b (.inScope c :: k) cs
      cases e with
      | normal => exact ⟨.normal, a₁, w₁, hq, Steps.trans harr (.one step_inScope)⟩
      | exit id => exact ⟨.exit id, a₁, w₁, hq, fun k' hk => harr k' (by simp [exitTo, hk])⟩
      | goto l' => exact absurd hq.2 (by omega)
      | ret => exact ⟨_, a₁, w₁, hq, harr⟩
      | panic ch => exact ⟨_, a₁, w₁, hq, harr⟩
      | outgrown => exact ⟨_, a₁, w₁, hq, harr⟩
    | succ n ih =>
      intro l a w hn hJ
      obtain ⟨behind, hf, hwp⟩ := again l a w hJ
      refine ⟨behind, hf, ?_⟩
      obtain ⟨e, a₁, w₁, hq, harr⟩ := hwp b (.inScope c :: k) cs
      cases e with
      | normal => exact ⟨.normal, a₁, w₁, hq, Steps.trans harr (.one step_inScope)⟩
      | exit id => exact ⟨.exit id, a₁, w₁, hq, fun k' hk => harr k' (by simp [exitTo, hk])⟩
      | goto l' =>
        obtain ⟨b2, hf2, e₂, a₂, w₂, hq₂, harr₂⟩ := ih l' a₁ w₁ (by have := hq.2; omega) hq.1
        exact ⟨e₂, a₂, w₂, hq₂, .of_steps (harr _ (hin l' b2 hf2)) harr₂⟩
      | ret => exact ⟨_, a₁, w₁, hq, harr⟩
      | panic ch => exact ⟨_, a₁, w₁, hq, harr⟩
      | outgrown => exact ⟨_, a₁, w₁, hq, harr⟩
  obtain ⟨e, a₁, w₁, hq, harr⟩ := start b (.inScope c :: k) cs
  cases e with
  | normal => exact ⟨.normal, a₁, w₁, hq, .head step_scope (Steps.trans harr (.one step_inScope))⟩
  | exit id => exact ⟨.exit id, a₁, w₁, hq, fun k' hk => .head step_scope (harr k' (by simp [exitTo, hk]))⟩
  | goto l' =>
    obtain ⟨b2, hf2, e₂, a₂, w₂, hq₂, harr₂⟩ := from_ _ l' a₁ w₁ (Nat.le_refl _) hq
    exact ⟨e₂, a₂, w₂, hq₂, .of_steps (.head step_scope (harr _ (hin l' b2 hf2))) harr₂⟩
  | ret => exact ⟨_, a₁, w₁, hq, .of_steps (.one step_scope) harr⟩
  | panic ch => exact ⟨_, a₁, w₁, hq, .of_steps (.one step_scope) harr⟩
  | outgrown => exact ⟨_, a₁, w₁, hq, .of_steps (.one step_scope) harr⟩
/-- the same, where the way in comes by a label, too -/
theorem wp_labels2 {P : Program} {c : Code} {a : Act} {w : World} {Q : Exit → Act → World → Prop} (J : Nat → Act → World → Prop) (size : Nat → Act → World → Nat)
    (again : ∀ l a w, J l a w → ∃ behind, findLabel c l = some behind ∧ behind.wp P (jumps (fun l' a' w' => J l' a' w' ∧ size l' a' w' < size l a w) Q) a w)
    (start : (∀ l a w, J l a w → ∃ behind, findLabel c l = some behind ∧ behind.wp P (jumps J Q) a w) → c.wp P (jumps J Q) a w) : (Code.scope c).wp P Q a w :=
  wp_labels J size (start fun l a w h => by
    obtain ⟨b, hb, hw⟩ := again l a w h
    refine ⟨b, hb, wp_mono hw fun e a' w' hq => ?_⟩
    cases e with
    | goto l' => exact hq.1
    | normal => exact hq
    | exit id => exact hq
    | ret => exact hq
    | panic ch => exact hq
    | outgrown => exact hq) again
end Go.Proofs.YthlbbinlkmchjaaDoor
