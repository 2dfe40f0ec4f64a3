/- A byte turned, bytes cut, a byte more: no font. -/
import Derived.Test.YtdinlaoimpoolaaPre
namespace Go.Proofs.Ytdinlaoimpoolaa
open Go.RowKit

theorem mul_back (x : Nat) (h : x < 4294967296) : x * 16777619 % 4294967296 * 899433627 % 4294967296 = x := by omega
theorem xor_lt {s c : Nat} (hs : s < 4294967296) (hc : c < 256) : s ^^^ c < 4294967296 := Nat.xor_lt_two_pow (n := 32) hs (by omega)
theorem xor_back (s c : Nat) : (s ^^^ c) ^^^ c = s := by rw [Nat.xor_assoc, Nat.xor_self, Nat.xor_zero]
theorem wit_eq {s t c d : Nat} (hs : s < 4294967296) (ht : t < 4294967296) (hc : c < 256) (hd : d < 256) (h : wit s c = wit t d) : s ^^^ c = t ^^^ d := by
  unfold wit at h
  have a := mul_back (s ^^^ c) (xor_lt hs hc)
  have b := mul_back (t ^^^ d) (xor_lt ht hd)
  rw [h] at a
  exact a.symm.trans b
theorem sumF_inj : ∀ (l : List Nat) (s t : Nat), (∀ b ∈ l, b < 256) → s < 4294967296 → t < 4294967296 → sumF s l = sumF t l → s = t
  | [], s, t, _, _, _, h => h
  | c :: l, s, t, hl, hs, ht, h => by
    have hc := hl c (by simp)
    have := sumF_inj l (wit s c) (wit t c) (fun b hb => hl b (by simp [hb])) (wit_lt _ _) (wit_lt _ _) h
    have := wit_eq hs ht hc hc this
    rw [← xor_back s c, this, xor_back]
theorem sum_turn {l1 l2 : List Nat} {c d : Nat} (h2 : ∀ b ∈ l2, b < 256) (hc : c < 256) (hd : d < 256) (h : sumB (l1 ++ c :: l2) = sumB (l1 ++ d :: l2)) : c = d := by
  rw [sumB_app, sumB_app] at h
  have := sumF_inj l2 (wit (sumB l1) c) (wit (sumB l1) d) h2 (wit_lt _ _) (wit_lt _ _) h
  have := wit_eq (sumB_lt l1) (sumB_lt l1) hc hd this
  have e : (sumB l1 ^^^ c) ^^^ sumB l1 = (sumB l1 ^^^ d) ^^^ sumB l1 := by rw [this]
  rw [Nat.xor_comm (sumB l1) c, Nat.xor_comm (sumB l1) d, xor_back, xor_back] at e
  exact e
theorem be4_inj {a b : Nat} (ha : a < 4294967296) (hb : b < 4294967296) (h : be 4 a = be 4 b) : a = b := by
  rw [be4, be4] at h
  simp only [List.cons.injEq, and_true] at h
  omega
theorem fontB_split (em : Int) (gs : List Gl) (ps : List Pr) : (fontB em gs ps).length = (body em gs ps).length + 4 := by
  unfold fontB; rw [List.length_append, be_len]
/-- with one byte turned they are no font's bytes -/
theorem turned {em em' : Int} {gs gs' : List Gl} {ps ps' : List Pr} {l1 l2 : List Nat} {c d : Nat} (h : fontB em gs ps = l1 ++ c :: l2) (h' : fontB em' gs' ps' = l1 ++ d :: l2) : c = d := by
  have h256 := fontB_lt em gs ps
  have h256' := fontB_lt em' gs' ps'
  have hc : c < 256 := h256 c (by rw [h]; simp)
  have hd : d < 256 := h256' d (by rw [h']; simp)
  have hl2 : ∀ b ∈ l2, b < 256 := fun b hb => h256 b (by rw [h]; simp [hb])
  have e1 := fontB_split em gs ps
  have e2 := fontB_split em' gs' ps'
  rw [h, List.length_append, List.length_cons] at e1
  rw [h', List.length_append, List.length_cons] at e2
  unfold fontB at h h'
  rcases Nat.lt_or_ge l1.length (body em gs ps).length with q | q
  · -- the byte is the body's
    have b1 : body em gs ps = l1 ++ c :: l2.take (l2.length - 4) := by
      have := congrArg (List.take (body em gs ps).length) h
      rw [List.take_left', List.take_append, List.take_of_length_le (by omega)] at this
      · rw [this, show (body em gs ps).length - l1.length = (l2.length - 4) + 1 by omega, List.take_succ_cons]
      · rfl
    have b2 : body em' gs' ps' = l1 ++ d :: l2.take (l2.length - 4) := by
      have := congrArg (List.take (body em' gs' ps').length) h'
      rw [List.take_left', List.take_append, List.take_of_length_le (by omega)] at this
      · rw [this, show (body em' gs' ps').length - l1.length = (l2.length - 4) + 1 by omega, List.take_succ_cons]
      · rfl
    have t1 : be 4 (sumB (body em gs ps)) = l2.drop (l2.length - 4) := by
      have := congrArg (List.drop (body em gs ps).length) h
      rw [List.drop_left', List.drop_append, List.drop_of_length_le (by omega), List.nil_append, show (body em gs ps).length - l1.length = (l2.length - 4) + 1 by omega, List.drop_succ_cons] at this
      · exact this
      · rfl
    have t2 : be 4 (sumB (body em' gs' ps')) = l2.drop (l2.length - 4) := by
      have := congrArg (List.drop (body em' gs' ps').length) h'
      rw [List.drop_left', List.drop_append, List.drop_of_length_le (by omega), List.nil_append, show (body em' gs' ps').length - l1.length = (l2.length - 4) + 1 by omega, List.drop_succ_cons] at this
      · exact this
      · rfl
    have hs := be4_inj (sumB_lt _) (sumB_lt _) (t1.trans t2.symm)
    rw [b1, b2] at hs
    exact sum_turn (fun b hb => hl2 b (List.mem_of_mem_take hb)) hc hd hs
  · -- the byte is the sum's
    have b1 : body em gs ps = l1.take (body em gs ps).length := by
      have := congrArg (List.take (body em gs ps).length) h
      rw [List.take_left', List.take_append_of_le_length (by omega)] at this
      · exact this
      · rfl
    have b2 : body em' gs' ps' = l1.take (body em gs ps).length := by
      have := congrArg (List.take (body em' gs' ps').length) h'
      rw [List.take_left', List.take_append_of_le_length (by omega)] at this
      · rw [this]; congr 1; omega
      · rfl
    have e : body em gs ps = body em' gs' ps' := b1.trans b2.symm
    rw [e, h'] at h
    have := List.append_cancel_left h
    simp only [List.cons.injEq, and_true] at this
    exact this.symm

/-- what Get answers with room enough -/
def fin (bs : List Nat) : (Int × Nat) ⊕ St := match run st0 0 bs with
  | .inl x => .inl x
  | .inr s => if s.nx = 16 then .inr s else .inl (60, bs.length)
theorem holdN_fin : ∀ (k : Nat) (m : M) (s : St), m.Ok → m.why = 0 → m.nw + k ≤ m.cb → (holdN k m s).2 = .inr s
  | 0, m, s, _, _, _ => rfl
  | k + 1, m, s, hm, hw, hk => by
    have h1 : m.holdOk 1 = true := by
      unfold M.holdOk chOk
      exact decide_eq_true ⟨by decide, hw, by omega⟩
    have h2 : m.hold 1 = { m with nw := m.nw + 1, pk := max m.pk (m.nw + 1) } := by
      unfold M.hold
      rw [if_neg (by rw [hw]; decide), if_neg (by omega)]
    rw [holdN, if_pos h1]
    exact holdN_fin k (m.hold 1) s (M.hold_ok hm 1) (by rw [h2]; exact hw) (by rw [h2]; show m.nw + 1 + (k : Int) ≤ m.cb; omega)
theorem hdr_len (em ng : Nat) (gs : List Gl) : (hdr em ng gs).length = 7 + 9 * gs.length := by
  unfold hdr
  simp only [List.length_append, be_len, gbs_len, PF, List.length_cons, List.length_nil]
  omega
/-- what is read is never long -/
theorem ser_len {s : St} {pre : List Nat} (G : Good s) (N : Num s) (S : Ser s pre) : pre.length ≤ 60000 := by
  have hb : s.bs ≤ 3 := by
    have h1 := N.b
    have : sz s.nx ≤ 4 := by unfold sz; split <;> decide
    omega
  have hd : (done s).length ≤ 55000 := by
    have hg : 5 ≤ s.nx → s.gs.length ≤ 1024 := fun h => by
      have h2 := G.ng h
      rcases Nat.lt_or_ge s.nx 9 with q | q
      · have := G.gl h (by omega); omega
      · have := G.ge q; omega
    have hp : 10 ≤ s.nx → s.ps.length ≤ 4096 := fun h => by
      have h2 := G.np h
      rcases Nat.lt_or_ge s.nx 15 with q | q
      · have := G.pl h (by omega); omega
      · have := G.pe q; omega
    have hf := pbs_len s.ps
    have hn := G.n16
    have hc : s.nx = 0 ∨ s.nx = 1 ∨ s.nx = 2 ∨ s.nx = 3 ∨ s.nx = 4 ∨ s.nx = 5 ∨ s.nx = 6 ∨ s.nx = 7 ∨ s.nx = 8 ∨ s.nx = 9 ∨ s.nx = 10 ∨ s.nx = 11 ∨ s.nx = 12 ∨ s.nx = 13 ∨ s.nx = 14 ∨ s.nx = 15 ∨ s.nx = 16 := by omega
    unfold done
    rcases hc with e | e | e | e | e | e | e | e | e | e | e | e | e | e | e | e | e <;> rw [e] at hg hp ⊢ <;> simp only [List.length_append, be_len, hdr_len, PF, List.length_cons, List.length_nil] <;> (try have hg := hg (by decide)) <;> (try have hp := hp (by decide)) <;> omega
  rw [S.a, List.length_append, be_len]
  omega
theorem getM_run : ∀ (bs : List Nat) (m : M) (s : St) (pre : List Nat), (∀ b ∈ bs, b < 256) → Good s → Num s → Ser s pre → m.Ok → m.why = 0 → m.dn = pre.length → 70000 ≤ m.sb → m.nw + 5120 ≤ m.cb →
    (getM m s pre.length bs).2 = (match run s pre.length bs with
      | .inl x => .inl x
      | .inr t => if t.nx = 16 then .inr t else .inl (60, pre.length + bs.length))
  | [], m, s, pre, _, G, N, S, hm, hw, hd, hs, hc => by
    rw [getM, run]
    simp only [List.length_nil, Nat.add_zero]
    by_cases h16 : s.nx = 16
    · rw [if_pos h16, if_pos h16]
      have h2 := G.ng (by omega)
      have h3 := G.ge (by omega)
      have h4 := G.np (by omega)
      have h5 := G.pe (by omega)
      exact holdN_fin _ m s hm hw (by omega)
    · rw [if_neg h16, if_neg h16]
  | c :: bs, m, s, pre, hb, G, N, S, hm, hw, hd, hs, hc => by
    have hl := ser_len G N S
    have h1 : m.stepOk 1 = true := by
      unfold M.stepOk chOk
      exact decide_eq_true ⟨by decide, hw, by omega⟩
    have h2 : m.step 1 = { m with dn := m.dn + 1 } := by
      unfold M.step
      rw [if_neg (by rw [hw]; decide), if_neg (by omega)]
    rw [getM, if_pos h1, run]
    cases ht : tk s c with
    | none => rfl
    | some t =>
      simp only []
      have hc' := hb c (by simp)
      have k := took G N hc' ht
      have ih := getM_run bs (m.step 1) t (pre ++ [c]) (fun b hm => hb b (by simp [hm])) k.1 k.2 (S.step G N hc' ht) (M.step_ok hm 1) (by rw [h2]; exact hw) (by rw [h2, List.length_append]; show m.dn + 1 = _; rw [hd]; rfl) (by rw [h2]; exact hs) (by rw [h2]; exact hc)
      rw [List.length_append, List.length_singleton] at ih
      rw [ih, List.length_cons, show pre.length + 1 + bs.length = pre.length + (bs.length + 1) by omega]
def MG : M := ⟨1152921504606846976, 1152921504606846976, 0, 0, 0, 0⟩
theorem MG_ok : MG.Ok := by constructor <;> decide
theorem great_fin (bs : List Nat) (hb : ∀ b ∈ bs, b < 256) : (getM MG st0 0 bs).2 = fin bs := by
  have := getM_run bs MG st0 [] hb good0.1 good0.2 ser0 MG_ok rfl rfl (by decide) (by decide)
  rw [List.length_nil] at this
  rw [this]
  unfold fin
  rw [Nat.zero_add]
theorem run_at : ∀ (bs : List Nat) (s : St) (i : Nat) (e : Int) (j : Nat), run s i bs = .inl (e, j) → (i ≤ j ∧ j < i + bs.length) ∧ (e = 60 ∨ e = 61)
  | [], s, i, e, j, h => by cases h
  | c :: bs, s, i, e, j, h => by
    rw [run] at h
    rw [List.length_cons]
    cases ht : tk s c with
    | none =>
      rw [ht] at h
      cases h
      refine ⟨by omega, ?_⟩
      unfold bad
      split
      · exact .inr rfl
      · exact .inl rfl
    | some t =>
      rw [ht] at h
      have := run_at bs t (i + 1) e j h
      exact ⟨by omega, this.2⟩
theorem run_take {a b : List Nat} {s t : St} {i : Nat} (h : run s i (a ++ b) = .inr t) : ∃ u, run s i a = .inr u ∧ run u (i + a.length) b = .inr t := by
  rw [run_append] at h
  cases hr : run s i a with
  | inl x => rw [hr] at h; cases h
  | inr u => rw [hr] at h; exact ⟨u, rfl, h⟩
theorem tk_16 {s : St} (h : s.nx = 16) (N : Num s) (c : Nat) : tk s c = none := by
  have hb := N.b
  rw [h] at hb
  simp only [sz] at hb
  unfold tk
  rw [if_neg (by rw [h]; simp only [sz]; omega), if_neg (by rw [fits_16 (s := one s c) (show s.nx = 16 from h)]; decide)]
/-- P6.4 -/
theorem fin_turned {em : Int} {gs : List Gl} {ps : List Pr} (hv : verd em gs ps = 0) {l1 l2 : List Nat} {c d : Nat} (h : fontB em gs ps = l1 ++ c :: l2) (hd : d < 256) (hne : c ≠ d) :
    ∃ (e : Int) (j : Nat), fin (l1 ++ d :: l2) = .inl (e, j) ∧ e ≠ 0 ∧ l1.length ≤ j := by
  obtain ⟨st, hr, h16, _⟩ := run_font hv
  rw [h] at hr
  have h256 := fontB_lt em gs ps
  obtain ⟨u, hu, _⟩ := run_take hr
  have hall : ∀ b ∈ l1 ++ d :: l2, b < 256 := by
    intro b hb
    rcases List.mem_append.1 hb with q | q
    · exact h256 b (by rw [h]; simp [q])
    · rcases List.mem_cons.1 q with rfl | q
      · exact hd
      · exact h256 b (by rw [h]; simp [q])
  unfold fin
  cases hx : run st0 0 (l1 ++ d :: l2) with
  | inl x =>
    obtain ⟨e, j⟩ := x
    have k := run_at _ _ _ _ _ hx
    rw [run_append, hu] at hx
    have k2 := run_at _ _ _ _ _ hx
    exact ⟨e, j, rfl, by omega, by omega⟩
  | inr t =>
    simp only []
    by_cases t16 : t.nx = 16
    · exfalso
      have := (run_back hall hx t16).1
      exact hne (turned h this.symm)
    · rw [if_neg t16]
      refine ⟨60, _, rfl, by decide, ?_⟩
      rw [List.length_append]; omega
/-- P6.5 -/
theorem fin_cut {em : Int} {gs : List Gl} {ps : List Pr} (hv : verd em gs ps = 0) {l1 l2 : List Nat} {c : Nat} (h : fontB em gs ps = l1 ++ c :: l2) : fin l1 = .inl (60, l1.length) := by
  obtain ⟨st, hr, h16, _⟩ := run_font hv
  rw [h] at hr
  obtain ⟨u, hu, hu2⟩ := run_take hr
  have h256 : ∀ b ∈ l1, b < 256 := fun b hb => fontB_lt em gs ps b (by rw [h]; simp [hb])
  have k := run_ser l1 st0 u 0 [] h256 good0.1 good0.2 ser0 hu
  unfold fin
  rw [hu]
  simp only []
  rw [if_neg]
  intro u16
  rw [run, tk_16 u16 k.2.1] at hu2
  cases hu2
/-- a byte behind -/
theorem fin_more {em : Int} {gs : List Gl} {ps : List Pr} (hv : verd em gs ps = 0) (c : Nat) : fin (fontB em gs ps ++ [c]) = .inl (60, (fontB em gs ps).length) := by
  obtain ⟨st, hr, h16, _⟩ := run_font hv
  have k := run_ser _ st0 st 0 [] (fontB_lt em gs ps) good0.1 good0.2 ser0 hr
  unfold fin
  rw [run_append, hr]
  simp only []
  rw [run, tk_16 h16 k.2.1]
  simp only [Nat.zero_add]
  unfold bad
  rw [if_neg (by omega)]
/-- a font's bytes -/
theorem fin_font {em : Int} {gs : List Gl} {ps : List Pr} (hv : verd em gs ps = 0) : ∃ st, fin (fontB em gs ps) = .inr st ∧ (st.em : Int) = em ∧ st.gs = gs ∧ st.ps = ps := by
  obtain ⟨st, hr, h16, h⟩ := run_font hv
  refine ⟨st, ?_, h⟩
  unfold fin
  rw [hr]
  simp only []
  rw [if_pos h16]
/-- what is told as a font -/
theorem fin_back {bs : List Nat} {s : St} (hb : ∀ b ∈ bs, b < 256) (h : fin bs = .inr s) : bs = fontB (s.em : Int) s.gs s.ps ∧ verd (s.em : Int) s.gs s.ps = 0 := by
  unfold fin at h
  cases hr : run st0 0 bs with
  | inl x => rw [hr] at h; cases h
  | inr t =>
    rw [hr] at h
    simp only [] at h
    split at h
    · rename_i h16
      cases h
      exact run_back hb hr h16
    · cases h
theorem fin_at {bs : List Nat} {e : Int} {j : Nat} (h : fin bs = .inl (e, j)) : e ≠ 0 ∧ j ≤ bs.length := by
  unfold fin at h
  cases hr : run st0 0 bs with
  | inl x =>
    rw [hr] at h
    simp only [Sum.inl.injEq] at h
    subst h
    have := run_at _ _ _ _ _ hr
    omega
  | inr t =>
    rw [hr] at h
    simp only [] at h
    split at h
    · cases h
    · simp only [Sum.inl.injEq, Prod.mk.injEq] at h
      omega
end Go.Proofs.Ytdinlaoimpoolaa
