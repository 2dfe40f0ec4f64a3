/- Put whole. -/
import Derived.Test.YtdinlaoimpoolaaPut
namespace Go.Proofs.Ytdinlaoimpoolaa
open Go.RowKit

theorem gb_lt (g : Gl) : ∀ b ∈ gb g, b < 256 := by
  intro b hb
  simp only [gb, List.mem_append] at hb
  rcases hb with h | h | h | h <;> exact be_lt _ _ _ h
theorem pb_lt (q : Pr) : ∀ b ∈ pb q, b < 256 := by
  intro b hb
  unfold pb at hb
  simp only [List.mem_append] at hb
  rcases hb with h | h | h
  · exact be_lt _ _ _ h
  · exact be_lt _ _ _ h
  · split at h
    · rcases List.mem_append.1 h with h | h <;> exact be_lt _ _ _ h
    · rcases List.mem_append.1 h with h | h <;> exact be_lt _ _ _ h
theorem PF_lt : ∀ b ∈ PF, b < 256 := by decide
theorem body_lt (em : Int) (gs : List Gl) (ps : List Pr) : ∀ b ∈ body em gs ps, b < 256 := by
  intro b hb
  unfold body at hb
  simp only [List.mem_append, List.mem_flatMap] at hb
  rcases hb with h | h | h | ⟨g, _, h⟩ | h | ⟨q, _, h⟩
  · exact PF_lt b h
  · exact be_lt _ _ _ h
  · exact be_lt _ _ _ h
  · exact gb_lt g b h
  · exact be_lt _ _ _ h
  · exact pb_lt q b h
theorem fontB_lt (em : Int) (gs : List Gl) (ps : List Pr) : ∀ b ∈ fontB em gs ps, b < 256 := by
  intro b hb
  rcases List.mem_append.1 hb with h | h
  · exact body_lt em gs ps b h
  · exact be_lt _ _ _ h
theorem fontB_len (em : Int) (gs : List Gl) (ps : List Pr) : (fontB em gs ps).length ≤ 13 + 9 * gs.length + 10 * ps.length := by
  have := pbs_len ps
  unfold fontB body
  simp only [List.length_append, be_len, gbs_len, PF, List.length_cons, List.length_nil]
  omega
/-- what New takes has numbers that fit -/
theorem verd_zero {em : Int} {gs : List Gl} {ps : List Pr} (h : verd em gs ps = 0) : (1 ≤ em ∧ em ≤ 16384) ∧ gs.length ≤ 1024 ∧ ps.length ≤ 4096 ∧ glOK (-1) gs = true ∧ prOK gs none ps = true := by
  unfold verd at h
  split at h
  · cases h
  · split at h
    · cases h
    · split at h
      · cases h
      · split at h
        · cases h
        · rename_i h1 h2 h3 h4
          exact ⟨by omega, by omega, by omega, by simpa using h3, by simpa using h4⟩
theorem gl_all : ∀ {gs : List Gl} {a : Int}, glOK a gs = true → ∀ g ∈ gs, widthI g.1 ≠ 0 ∧ units g = true
  | [], _, _, g, hg => by simp at hg
  | x :: gs, a, h, g, hg => by
    simp only [glOK, okG, Bool.and_eq_true, decide_eq_true_eq] at h
    rcases List.mem_cons.1 hg with rfl | hg
    · exact ⟨h.1.1, h.1.2.2⟩
    · exact gl_all h.2 g hg
theorem pr_all {gl : List Gl} : ∀ {ps : List Pr} {q : Option Pr}, prOK gl q ps = true → ∀ p ∈ ps, pairOK gl p = true
  | [], _, _, p, hp => by simp at hp
  | x :: ps, q, h, p, hp => by
    simp only [prOK, okP, Bool.and_eq_true] at h
    rcases List.mem_cons.1 hp with rfl | hp
    · exact h.1.1
    · exact pr_all h.2 p hp
theorem width_fit {r : Int} (h : widthI r ≠ 0) : 0 ≤ r ∧ r ≤ 1114111 := by
  unfold widthI at h
  split at h
  · exact absurd rfl h
  · omega
theorem has_fit {gs : List Gl} (h : ∀ g ∈ gs, widthI g.1 ≠ 0 ∧ units g = true) {r : Int} (hr : hasG gs r = true) : 0 ≤ r ∧ r ≤ 1114111 := by
  unfold hasG lookG at hr
  cases hf : gs.find? (fun g => decide (g.1 = r)) with
  | none => rw [hf] at hr; cases hr
  | some x =>
    have h1 := List.find?_some hf
    simp only [decide_eq_true_eq] at h1
    rw [← h1]
    exact width_fit (h x (List.mem_of_find?_eq_some hf)).1
theorem fine_of {em : Int} {gs : List Gl} {ps : List Pr} (h : verd em gs ps = 0) : Fine em gs ps := by
  obtain ⟨h1, h2, h3, h4, h5⟩ := verd_zero h
  have hg := gl_all h4
  refine ⟨by omega, h2, h3, fun g hm => ?_, fun p hm => ?_⟩
  · have a := hg g hm
    have b := width_fit a.1
    have c := a.2
    simp only [units, inU, Bool.and_eq_true, decide_eq_true_eq] at c
    omega
  · have a := pr_all h5 p hm
    unfold pairOK at a
    simp only [Bool.and_eq_true] at a
    obtain ⟨a1, a2, a3⟩ := a
    have b1 := has_fit hg a1
    have b2 := has_fit hg a2
    split at a3
    · simp only [Bool.and_eq_true, decide_eq_true_eq] at a3
      have b3 := has_fit hg a3.1
      have b4 := a3.2
      omega
    · simp only [Bool.and_eq_true, decide_eq_true_eq, kernOK] at a3
      have w1 := wide_of (units_of h4) p.1
      have w2 := wide_of (units_of h4) p.2.1
      obtain ⟨c1, c2, c3, c4⟩ := a3
      omega

/-- what Put answers -/
def Puts (w w' : World) (em : Int) (gs : List Gl) (ps : List Pr) (e : Ending) : Prop :=
  e = .returned (.tuple #[.string (if verd em gs ps = 0 then strN (fontB em gs ps) else ⟨#[]⟩), .int .i64 (verd em gs ps)]) ∧ Below w.heap.size w w'
set_option maxRecDepth 100000 in
set_option maxHeartbeats 8000000 in
theorem put_any (em : Int) (gs : List Gl) (ps : List Pr) (ag ap : Option Addr) (ca cb : Nat) (w : World) (hg : gs.length ≤ 9223372036854775807) (hp : ps.length ≤ 9223372036854775807) (sg : Sl w ag gs.length (gs.flatMap cg)) (sp : Sl w ap ps.length (ps.flatMap cp)) :
    Calls Try.prog 10 #[.agg #[.int .i64 em, .slice ag gs.length ca, .slice ap ps.length cb]] w fun e w' => Puts w w' em gs ps e := by
  have HB1 : Hid (Below w.heap.size w (w.alloc (.cells #[.int .i64 em, .slice ag gs.length ca, .slice ap ps.length cb] 25))) := hid ((Below.refl _ w).alloc (Nat.le_refl _) _)
  have HBK := hid (Blk.new w #[.int .i64 em, .slice ag gs.length ca, .slice ap ps.length cb] 25 rfl)
  have HSG := hid (fun X (h : Below w.heap.size w X) => sg.below h)
  have HSP := hid (fun X (h : Below w.heap.size w X) => sp.below h)
  have HNW := hid (fun X (h : Below w.heap.size w X) => new_any em gs ps ag ap ca cb X hg hp (HSG.out X h) (HSP.out X h))
  have HFI := hid (fun (h : verd em gs ps = 0) => fine_of h)
  clear sg sp hg hp
  go_enter Try.func10, Try.ntmps10
  go_wp2_with fail
  obtain ⟨W1, hW1⟩ : ∃ W1, w.alloc (.cells #[.int .i64 em, .slice ag gs.length ca, .slice ap ps.length cb] 25) = W1 := ⟨_, rfl⟩
  rw [hW1] at HB1 HBK ⊢
  clear hW1
  refine (HNW.out W1 HB1.out).mono ?_
  rintro e W2 ⟨hbad, hgood, hb2⟩
  have HB2 := hid (HB1.out.trans (hb2.mono HB1.out.size))
  have HBK2 := hid (HBK.out.below hb2)
  clear hb2 HBK HB1 HNW
  by_cases hv : verd em gs ps = 0
  · obtain ⟨a, rfl, _⟩ := hgood hv
    have HV := hid hv
    have c0 : W2.cell? ⟨w.heap.size, 0, none⟩ = some (.int .i64 em) := HBK2.out.cell 0
    have c1 : W2.cell? ⟨w.heap.size, 1, none⟩ = some (.slice ag gs.length ca) := HBK2.out.cell 1
    have c2 : W2.cell? ⟨w.heap.size, 2, none⟩ = some (.slice ap ps.length cb) := HBK2.out.cell 2
    have HFN := hid (HFI.out hv)
    clear hbad hgood hv HFI
    go_wp2_with fail
    refine (newWriter_any em gs ps ag ap ca cb W2 HFN.out.gl HFN.out.pl).mono ?_
    rintro e W3 ⟨a, b, rfl, hwr, ha, hb, hb3⟩
    have HW3 := hid hwr
    have HB3 := hid (HB2.out.trans (hb3.mono HB2.out.size))
    have HBK3 := hid (HBK2.out.below hb3)
    have HAB : Hid (w.heap.size < a ∧ w.heap.size < b) := hid (by have := HBK2.out.lt; omega)
    clear hwr ha hb hb3 c0 c1 c2 HBK2
    have c0 : W3.cell? ⟨w.heap.size, 0, none⟩ = some (.int .i64 em) := HBK3.out.cell 0
    have c1 : W3.cell? ⟨w.heap.size, 1, none⟩ = some (.slice ag gs.length ca) := HBK3.out.cell 1
    have c2 : W3.cell? ⟨w.heap.size, 2, none⟩ = some (.slice ap ps.length cb) := HBK3.out.cell 2
    have HR : Hid (13 + 9 * gs.length + 10 * ps.length ≤ 1000000) := hid (by have := HFN.out.gl; have := HFN.out.pl; omega)
    have HAG : Hid ((∀ c o, ag = some ⟨c, o, none⟩ → gs.length ≠ 0 → c ≠ a ∧ c ≠ b) ∧ (∀ c o, ap = some ⟨c, o, none⟩ → ps.length ≠ 0 → c ≠ a ∧ c ≠ b)) := hid (by
      refine ⟨fun c o e h0 => ?_, fun c o e h0 => ?_⟩
      · obtain ⟨b', off, e', hat⟩ := HSG.out w (Below.refl _ _) h0
        rw [e] at e'; cases e'
        have := hat.1; have := HAB.out; omega
      · obtain ⟨b', off, e', hat⟩ := HSP.out w (Below.refl _ _) h0
        rw [e] at e'; cases e'
        have := hat.1; have := HAB.out; omega)
    go_wp2_with fail
    refine (layFont_any em gs ps ag ap ca cb a b _ W3 HFN.out HW3.out (Nat.le_refl _) HR.out (HSG.out W3 HB3.out) (HSP.out W3 HB3.out) ?_ ?_).mono ?_
    · exact HAG.out.1
    · exact HAG.out.2
    rintro e W4 ⟨rfl, hw4, ho4⟩
    have HW4 := hid hw4
    have HB4 : Hid (Below w.heap.size w W4) := hid (HB3.out.trans (ho4.toBelow HB3.out.size (by intro k hk; have := HAB.out; simp at hk; omega)))
    clear hw4 ho4 c0 c1 c2
    go_wp2_with fail
    refine (text_any a b _ _ W4 HW4.out (fontB_lt em gs ps) HR.out).mono ?_
    rintro e W5 ⟨rfl, hb5⟩
    go_wp2_with fail
    go_ret2
    exact ⟨by rw [if_pos HV.out, HV.out]; rfl, HB4.out.trans (hb5.mono HB4.out.size)⟩
  · have he := hbad hv
    subst he
    have HV : Hid (verd em gs ps ≠ 0) := hid hv
    have hv2 : ((verd em gs ps) != 0) = true := by simpa using hv
    clear hbad hgood hv HFI
    go_wp2_with fail
    go_ret2
    exact ⟨by rw [if_neg HV.out]; rfl, HB2.out⟩
end Go.Proofs.Ytdinlaoimpoolaa
