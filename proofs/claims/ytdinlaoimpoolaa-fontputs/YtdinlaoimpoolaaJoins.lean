/- joins: whether a pair may be, by itself. -/
import Derived.Test.YtdinlaoimpoolaaSearch
namespace Go.Proofs.Ytdinlaoimpoolaa
open Go.RowKit

def kernOK (a b k : Int) : Bool := decide (-(min a b) ≤ k) && decide (k ≤ 16384)
theorem kern_back {a b k : Int} (h : ¬ -(min a b) ≤ k) : kernOK a b k = false := by unfold kernOK; rw [decide_eq_false h]; rfl
theorem kern_on {a b k : Int} (h : ¬ k ≤ 16384) : kernOK a b k = false := by unfold kernOK; rw [decide_eq_false h, Bool.and_false]
theorem kern_ok {a b k : Int} (h : -(min a b) ≤ k) (h2 : k ≤ 16384) : kernOK a b k = true := by unfold kernOK; rw [decide_eq_true h, decide_eq_true h2]; rfl
theorem way_kern {hg k q : Bool} {c : Int} {o : Bool} (h : (true && (true && if false = true then hg && decide (c = 0) else decide ((0 : Int) = 0) && (decide (c ≠ 0) && o))) = q) (hc : c ≠ 0) (ho : o = k) : k = q := by
  subst ho; rw [← h]; simp [hc]
def pairOK (gs : List Gl) (p : Pr) : Bool :=
  hasG gs p.1 && (hasG gs p.2.1 && (if p.2.2.1 = true then hasG gs p.2.2.2.1 && decide (p.2.2.2.2 = 0) else decide (p.2.2.2.1 = 0) && (decide (p.2.2.2.2 ≠ 0) && kernOK (gotG gs p.1).2.1 (gotG gs p.2.1).2.1 p.2.2.2.2)))

/-- a table with these glyphs lies at a -/
structure TG (W : World) (a : Nat) (gs : List Gl) : Prop where
  rise : Rise gs
  len : gs.length ≤ 2147483647
  lies : ∃ em ad cap mv, Blk W a [.int .i64 em, .slice ad gs.length cap, mv] 97 ∧ Sl W ad gs.length (gs.flatMap cg)
theorem TG.below {W W' : World} {a : Nat} {gs : List Gl} (h : TG W a gs) (k : Below W.heap.size W W') : TG W' a gs := by
  obtain ⟨em, ad, cap, mv, h1, h2⟩ := h.lies
  exact ⟨h.rise, h.len, em, ad, cap, mv, h1.below k, h2.below k⟩
theorem TG.glyph {W : World} {a : Nat} {gs : List Gl} (h : TG W a gs) (r : Int) : Calls Try.prog 74 #[.pointer (some ⟨a, 0, none⟩), .int .i64 r] W fun e w' => e = .returned (.tuple #[.agg (cg (gotG gs r)).toArray, .bool (hasG gs r)]) ∧ Below W.heap.size W w' := by
  obtain ⟨em, ad, cap, mv, h1, h2⟩ := h.lies
  exact glyph_any gs h.rise a em ad cap mv r W h.len h1 h2
theorem units_of {a : Int} {gs : List Gl} (h : glOK a gs = true) : ∀ g ∈ gs, units g = true := by
  induction gs generalizing a with
  | nil => intro g hg; cases hg
  | cons x gs ih =>
    simp only [glOK, okG, Bool.and_eq_true] at h
    intro g hg
    rcases List.mem_cons.1 hg with rfl | hg
    · exact h.1.2.2
    · exact ih h.2 g hg
theorem wide_of {gs : List Gl} (h : ∀ g ∈ gs, units g = true) (r : Int) : 0 ≤ (gotG gs r).2.1 ∧ (gotG gs r).2.1 ≤ 16384 := by
  unfold gotG
  cases hf : lookG gs r with
  | none => simp
  | some x =>
    have := h x (List.mem_of_find?_eq_some hf)
    simp only [units, inU, Bool.and_eq_true, decide_eq_true_eq] at this
    exact this.1

theorem joins_ways (hl hr hg is : Bool) (lig kern a b : Int) : (hl = false) ∨ (hl = true ∧ hr = false) ∨ (hl = true ∧ hr = true ∧ is = true ∧ hg = false) ∨ (hl = true ∧ hr = true ∧ is = true ∧ hg = true ∧ kern = 0) ∨ (hl = true ∧ hr = true ∧ is = true ∧ hg = true ∧ kern ≠ 0) ∨
    (hl = true ∧ hr = true ∧ is = false ∧ lig ≠ 0) ∨ (hl = true ∧ hr = true ∧ is = false ∧ lig = 0 ∧ kern = 0) ∨ (hl = true ∧ hr = true ∧ is = false ∧ lig = 0 ∧ kern ≠ 0 ∧ ¬ -(min a b) ≤ kern) ∨
    (hl = true ∧ hr = true ∧ is = false ∧ lig = 0 ∧ kern ≠ 0 ∧ -(min a b) ≤ kern ∧ ¬ kern ≤ 16384) ∨ (hl = true ∧ hr = true ∧ is = false ∧ lig = 0 ∧ kern ≠ 0 ∧ -(min a b) ≤ kern ∧ kern ≤ 16384) := by
  by_cases h1 : lig = 0 <;> by_cases h2 : kern = 0 <;> by_cases h3 : -(min a b) ≤ kern <;> by_cases h4 : kern ≤ 16384 <;> cases hl <;> cases hr <;> cases hg <;> cases is <;> simp [h1, h2, h3, h4]

set_option maxRecDepth 100000 in
set_option maxHeartbeats 8000000 in
theorem joins_any (gs : List Gl) (hu : ∀ g ∈ gs, units g = true) (a : Nat) (p : Pr) (w : World) (hT : TG w a gs) :
    Calls Try.prog 65 #[.pointer (some ⟨a, 0, none⟩), .agg (cp p).toArray] w fun e w' => e = .returned (.bool (pairOK gs p)) ∧ Below w.heap.size w w' := by
  obtain ⟨p0, p1, is, lig, kern⟩ := p
  have w0 := wide_of hu p0
  have w1 := wide_of hu p1
  have HT : Hid (∀ r W, Below w.heap.size w W → Calls Try.prog 74 #[.pointer (some ⟨a, 0, none⟩), .int .i64 r] W fun e w' => e = .returned (.tuple #[.agg (cg (gotG gs r)).toArray, .bool (hasG gs r)]) ∧ Below W.heap.size W w') := fun r W h => (hT.below h).glyph r
  have ways := joins_ways (hasG gs p0) (hasG gs p1) (hasG gs lig) is lig kern (gotG gs p0).2.1 (gotG gs p1).2.1
  have HL := hid (HT.out p0)
  have HR := hid (HT.out p1)
  have HI := hid (HT.out lig)
  obtain ⟨q, hq⟩ : ∃ q, pairOK gs (p0, p1, is, lig, kern) = q := ⟨_, rfl⟩
  rw [hq]
  have HQ : Hid (pairOK gs (p0, p1, is, lig, kern) = q) := hq
  unfold pairOK at HQ
  simp only at HQ
  clear HT hT hu hq
  generalize hasG gs p0 = hl at *
  generalize hasG gs p1 = hr at *
  generalize hasG gs lig = hg at *
  generalize gotG gs p0 = g0 at *
  generalize gotG gs p1 = g1 at *
  generalize gotG gs lig = g2 at *
  obtain ⟨x0, x1, x2, x3⟩ := g0
  obtain ⟨y0, y1, y2, y3⟩ := g1
  obtain ⟨z0, z1, z2, z3⟩ := g2
  simp only [cg, cp] at *
  have P0 := Blk.new w #[.int .i64 p0, .int .i64 p1, .bool is, .int .i64 lig, .int .i64 kern] 35 rfl
  have B0 : Below w.heap.size w (w.alloc (.cells #[.int .i64 p0, .int .i64 p1, .bool is, .int .i64 lig, .int .i64 kern] 35)) := (Below.refl _ w).alloc (Nat.le_refl _) _
  rcases ways with h1 | ⟨h1, h2⟩ | ⟨h1, h2, h3, h4⟩ | ⟨h1, h2, h3, h4, h5⟩ | ⟨h1, h2, h3, h4, h5⟩ | ⟨h1, h2, h3, h4⟩ | ⟨h1, h2, h3, h4, h5⟩ | ⟨h1, h2, h3, h4, h5, h6⟩ | ⟨h1, h2, h3, h4, h5, h6, h7⟩ | ⟨h1, h2, h3, h4, h5, h6, h7⟩
  all_goals
    subst h1
    try subst h2
    try subst h3
  · -- no left
    go_enter Try.func65, Try.ntmps65
    go_wp2_with fail
    refine (HL.out _ B0).mono ?_
    rintro e w2 ⟨rfl, hb⟩
    have s1 : w.heap.size < w2.heap.size := by have := hb.size; simp at this; omega
    have B1 := B0.trans (hb.mono (by simp))
    have P1 := P0.below hb
    have c0 : w2.cell? ⟨w.heap.size, 0, none⟩ = some (.int .i64 p0) := P1.cell 0
    have c1 : w2.cell? ⟨w.heap.size, 1, none⟩ = some (.int .i64 p1) := P1.cell 1
    have B2 : Below w.heap.size w (w2.alloc (.cells #[.int .i64 x0, .int .i64 x1, .int .i64 x2, .int .i64 x3] 33)) := B1.alloc B1.size _
    go_wp2_with fail
    refine (HR.out _ B2).mono ?_
    rintro e w3 ⟨rfl, hb3⟩
    have s2 : w2.heap.size < w3.heap.size := by have := hb3.size; simp at this; omega
    have s3 : w.heap.size < w3.heap.size := by omega
    have P3 := (P1.alloc (.cells #[.int .i64 x0, .int .i64 x1, .int .i64 x2, .int .i64 x3] 33)).below hb3
    have X3 := (Blk.new w2 #[.int .i64 x0, .int .i64 x1, .int .i64 x2, .int .i64 x3] 33 rfl).below hb3
    have B3 : Hid _ := B2.trans (hb3.mono B2.size)
    have d2 : w3.cell? ⟨w.heap.size, 2, none⟩ = some (.bool _) := P3.cell 2
    have d3 : w3.cell? ⟨w.heap.size, 3, none⟩ = some (.int .i64 _) := P3.cell 3
    have d4 : w3.cell? ⟨w.heap.size, 4, none⟩ = some (.int .i64 _) := P3.cell 4
    have e1 : w3.cell? ⟨w2.heap.size, 1, none⟩ = some (.int .i64 x1) := X3.cell 1
    clear B0 B1 B2 hb hb3 c0 c1 P1 P0 X3
    clear P3 d2 d3 d4 e1
    go_wp2_with fail
    go_ret
    exact ⟨ret_bool (by rw [← HQ.out]; rfl), B3.out.alloc B3.out.size _⟩
  · -- no right
    go_enter Try.func65, Try.ntmps65
    go_wp2_with fail
    refine (HL.out _ B0).mono ?_
    rintro e w2 ⟨rfl, hb⟩
    have s1 : w.heap.size < w2.heap.size := by have := hb.size; simp at this; omega
    have B1 := B0.trans (hb.mono (by simp))
    have P1 := P0.below hb
    have c0 : w2.cell? ⟨w.heap.size, 0, none⟩ = some (.int .i64 p0) := P1.cell 0
    have c1 : w2.cell? ⟨w.heap.size, 1, none⟩ = some (.int .i64 p1) := P1.cell 1
    have B2 : Below w.heap.size w (w2.alloc (.cells #[.int .i64 x0, .int .i64 x1, .int .i64 x2, .int .i64 x3] 33)) := B1.alloc B1.size _
    go_wp2_with fail
    refine (HR.out _ B2).mono ?_
    rintro e w3 ⟨rfl, hb3⟩
    have s2 : w2.heap.size < w3.heap.size := by have := hb3.size; simp at this; omega
    have s3 : w.heap.size < w3.heap.size := by omega
    have P3 := (P1.alloc (.cells #[.int .i64 x0, .int .i64 x1, .int .i64 x2, .int .i64 x3] 33)).below hb3
    have X3 := (Blk.new w2 #[.int .i64 x0, .int .i64 x1, .int .i64 x2, .int .i64 x3] 33 rfl).below hb3
    have B3 : Hid _ := B2.trans (hb3.mono B2.size)
    have d2 : w3.cell? ⟨w.heap.size, 2, none⟩ = some (.bool _) := P3.cell 2
    have d3 : w3.cell? ⟨w.heap.size, 3, none⟩ = some (.int .i64 _) := P3.cell 3
    have d4 : w3.cell? ⟨w.heap.size, 4, none⟩ = some (.int .i64 _) := P3.cell 4
    have e1 : w3.cell? ⟨w2.heap.size, 1, none⟩ = some (.int .i64 x1) := X3.cell 1
    clear B0 B1 B2 hb hb3 c0 c1 P1 P0 X3
    clear P3 d2 d3 d4 e1
    go_wp2_with fail
    go_ret
    exact ⟨ret_bool (by rw [← HQ.out]; rfl), B3.out.alloc B3.out.size _⟩
  · -- a ligature of no glyph
    try subst h4
    go_enter Try.func65, Try.ntmps65
    go_wp2_with fail
    refine (HL.out _ B0).mono ?_
    rintro e w2 ⟨rfl, hb⟩
    have s1 : w.heap.size < w2.heap.size := by have := hb.size; simp at this; omega
    have B1 := B0.trans (hb.mono (by simp))
    have P1 := P0.below hb
    have c0 : w2.cell? ⟨w.heap.size, 0, none⟩ = some (.int .i64 p0) := P1.cell 0
    have c1 : w2.cell? ⟨w.heap.size, 1, none⟩ = some (.int .i64 p1) := P1.cell 1
    have B2 : Below w.heap.size w (w2.alloc (.cells #[.int .i64 x0, .int .i64 x1, .int .i64 x2, .int .i64 x3] 33)) := B1.alloc B1.size _
    go_wp2_with fail
    refine (HR.out _ B2).mono ?_
    rintro e w3 ⟨rfl, hb3⟩
    have s2 : w2.heap.size < w3.heap.size := by have := hb3.size; simp at this; omega
    have s3 : w.heap.size < w3.heap.size := by omega
    have P3 := (P1.alloc (.cells #[.int .i64 x0, .int .i64 x1, .int .i64 x2, .int .i64 x3] 33)).below hb3
    have X3 := (Blk.new w2 #[.int .i64 x0, .int .i64 x1, .int .i64 x2, .int .i64 x3] 33 rfl).below hb3
    have B3 : Hid _ := B2.trans (hb3.mono B2.size)
    have d2 : w3.cell? ⟨w.heap.size, 2, none⟩ = some (.bool _) := P3.cell 2
    have d3 : w3.cell? ⟨w.heap.size, 3, none⟩ = some (.int .i64 _) := P3.cell 3
    have d4 : w3.cell? ⟨w.heap.size, 4, none⟩ = some (.int .i64 _) := P3.cell 4
    have e1 : w3.cell? ⟨w2.heap.size, 1, none⟩ = some (.int .i64 x1) := X3.cell 1
    clear B0 B1 B2 hb hb3 c0 c1 P1 P0 X3
    have B4 : Hid _ := B3.out.alloc B3.out.size (.cells #[.int .i64 y0, .int .i64 y1, .int .i64 y2, .int .i64 y3] 33)
    have P4 := P3.alloc (.cells #[.int .i64 y0, .int .i64 y1, .int .i64 y2, .int .i64 y3] 33)
    clear P3
    go_wp2_with fail
    refine (HI.out _ B4.out).mono ?_
    rintro e w4 ⟨rfl, hb4⟩
    have s4 : w.heap.size < w4.heap.size := by have := hb4.size; simp at this; omega
    have f4 : w4.cell? ⟨w.heap.size, 4, none⟩ = some (.int .i64 _) := (P4.below hb4).cell 4
    have B5 : Hid _ := B4.out.trans (hb4.mono B4.out.size)
    clear hb4 P4 d2 d3 d4 e1
    go_wp2_with fail
    go_ret
    exact ⟨ret_bool (by rw [← HQ.out]; simp [*]), B5.out.alloc B5.out.size _⟩
  · -- a ligature
    subst h4
    subst h5
    go_enter Try.func65, Try.ntmps65
    go_wp2_with fail
    refine (HL.out _ B0).mono ?_
    rintro e w2 ⟨rfl, hb⟩
    have s1 : w.heap.size < w2.heap.size := by have := hb.size; simp at this; omega
    have B1 := B0.trans (hb.mono (by simp))
    have P1 := P0.below hb
    have c0 : w2.cell? ⟨w.heap.size, 0, none⟩ = some (.int .i64 p0) := P1.cell 0
    have c1 : w2.cell? ⟨w.heap.size, 1, none⟩ = some (.int .i64 p1) := P1.cell 1
    have B2 : Below w.heap.size w (w2.alloc (.cells #[.int .i64 x0, .int .i64 x1, .int .i64 x2, .int .i64 x3] 33)) := B1.alloc B1.size _
    go_wp2_with fail
    refine (HR.out _ B2).mono ?_
    rintro e w3 ⟨rfl, hb3⟩
    have s2 : w2.heap.size < w3.heap.size := by have := hb3.size; simp at this; omega
    have s3 : w.heap.size < w3.heap.size := by omega
    have P3 := (P1.alloc (.cells #[.int .i64 x0, .int .i64 x1, .int .i64 x2, .int .i64 x3] 33)).below hb3
    have X3 := (Blk.new w2 #[.int .i64 x0, .int .i64 x1, .int .i64 x2, .int .i64 x3] 33 rfl).below hb3
    have B3 : Hid _ := B2.trans (hb3.mono B2.size)
    have d2 : w3.cell? ⟨w.heap.size, 2, none⟩ = some (.bool _) := P3.cell 2
    have d3 : w3.cell? ⟨w.heap.size, 3, none⟩ = some (.int .i64 _) := P3.cell 3
    have d4 : w3.cell? ⟨w.heap.size, 4, none⟩ = some (.int .i64 _) := P3.cell 4
    have e1 : w3.cell? ⟨w2.heap.size, 1, none⟩ = some (.int .i64 x1) := X3.cell 1
    clear B0 B1 B2 hb hb3 c0 c1 P1 P0 X3
    have B4 : Hid _ := B3.out.alloc B3.out.size (.cells #[.int .i64 y0, .int .i64 y1, .int .i64 y2, .int .i64 y3] 33)
    have P4 := P3.alloc (.cells #[.int .i64 y0, .int .i64 y1, .int .i64 y2, .int .i64 y3] 33)
    clear P3
    go_wp2_with fail
    refine (HI.out _ B4.out).mono ?_
    rintro e w4 ⟨rfl, hb4⟩
    have s4 : w.heap.size < w4.heap.size := by have := hb4.size; simp at this; omega
    have f4 : w4.cell? ⟨w.heap.size, 4, none⟩ = some (.int .i64 _) := (P4.below hb4).cell 4
    have B5 : Hid _ := B4.out.trans (hb4.mono B4.out.size)
    clear hb4 P4 d2 d3 d4 e1
    go_wp2_with fail
    go_ret
    exact ⟨ret_bool (by rw [← HQ.out]; simp [*]), B5.out.alloc B5.out.size _⟩
  · -- a ligature with a kern
    try subst h4
    go_enter Try.func65, Try.ntmps65
    go_wp2_with fail
    refine (HL.out _ B0).mono ?_
    rintro e w2 ⟨rfl, hb⟩
    have s1 : w.heap.size < w2.heap.size := by have := hb.size; simp at this; omega
    have B1 := B0.trans (hb.mono (by simp))
    have P1 := P0.below hb
    have c0 : w2.cell? ⟨w.heap.size, 0, none⟩ = some (.int .i64 p0) := P1.cell 0
    have c1 : w2.cell? ⟨w.heap.size, 1, none⟩ = some (.int .i64 p1) := P1.cell 1
    have B2 : Below w.heap.size w (w2.alloc (.cells #[.int .i64 x0, .int .i64 x1, .int .i64 x2, .int .i64 x3] 33)) := B1.alloc B1.size _
    go_wp2_with fail
    refine (HR.out _ B2).mono ?_
    rintro e w3 ⟨rfl, hb3⟩
    have s2 : w2.heap.size < w3.heap.size := by have := hb3.size; simp at this; omega
    have s3 : w.heap.size < w3.heap.size := by omega
    have P3 := (P1.alloc (.cells #[.int .i64 x0, .int .i64 x1, .int .i64 x2, .int .i64 x3] 33)).below hb3
    have X3 := (Blk.new w2 #[.int .i64 x0, .int .i64 x1, .int .i64 x2, .int .i64 x3] 33 rfl).below hb3
    have B3 : Hid _ := B2.trans (hb3.mono B2.size)
    have d2 : w3.cell? ⟨w.heap.size, 2, none⟩ = some (.bool _) := P3.cell 2
    have d3 : w3.cell? ⟨w.heap.size, 3, none⟩ = some (.int .i64 _) := P3.cell 3
    have d4 : w3.cell? ⟨w.heap.size, 4, none⟩ = some (.int .i64 _) := P3.cell 4
    have e1 : w3.cell? ⟨w2.heap.size, 1, none⟩ = some (.int .i64 x1) := X3.cell 1
    clear B0 B1 B2 hb hb3 c0 c1 P1 P0 X3
    have B4 : Hid _ := B3.out.alloc B3.out.size (.cells #[.int .i64 y0, .int .i64 y1, .int .i64 y2, .int .i64 y3] 33)
    have P4 := P3.alloc (.cells #[.int .i64 y0, .int .i64 y1, .int .i64 y2, .int .i64 y3] 33)
    clear P3
    go_wp2_with fail
    refine (HI.out _ B4.out).mono ?_
    rintro e w4 ⟨rfl, hb4⟩
    have s4 : w.heap.size < w4.heap.size := by have := hb4.size; simp at this; omega
    have f4 : w4.cell? ⟨w.heap.size, 4, none⟩ = some (.int .i64 _) := (P4.below hb4).cell 4
    have B5 : Hid _ := B4.out.trans (hb4.mono B4.out.size)
    clear hb4 P4 d2 d3 d4 e1
    go_wp2_with fail
    go_ret
    exact ⟨ret_bool (by rw [← HQ.out]; simp [*]), B5.out.alloc B5.out.size _⟩
  · -- no ligature, one named
    go_enter Try.func65, Try.ntmps65
    go_wp2_with fail
    refine (HL.out _ B0).mono ?_
    rintro e w2 ⟨rfl, hb⟩
    have s1 : w.heap.size < w2.heap.size := by have := hb.size; simp at this; omega
    have B1 := B0.trans (hb.mono (by simp))
    have P1 := P0.below hb
    have c0 : w2.cell? ⟨w.heap.size, 0, none⟩ = some (.int .i64 p0) := P1.cell 0
    have c1 : w2.cell? ⟨w.heap.size, 1, none⟩ = some (.int .i64 p1) := P1.cell 1
    have B2 : Below w.heap.size w (w2.alloc (.cells #[.int .i64 x0, .int .i64 x1, .int .i64 x2, .int .i64 x3] 33)) := B1.alloc B1.size _
    go_wp2_with fail
    refine (HR.out _ B2).mono ?_
    rintro e w3 ⟨rfl, hb3⟩
    have s2 : w2.heap.size < w3.heap.size := by have := hb3.size; simp at this; omega
    have s3 : w.heap.size < w3.heap.size := by omega
    have P3 := (P1.alloc (.cells #[.int .i64 x0, .int .i64 x1, .int .i64 x2, .int .i64 x3] 33)).below hb3
    have X3 := (Blk.new w2 #[.int .i64 x0, .int .i64 x1, .int .i64 x2, .int .i64 x3] 33 rfl).below hb3
    have B3 : Hid _ := B2.trans (hb3.mono B2.size)
    have d2 : w3.cell? ⟨w.heap.size, 2, none⟩ = some (.bool _) := P3.cell 2
    have d3 : w3.cell? ⟨w.heap.size, 3, none⟩ = some (.int .i64 _) := P3.cell 3
    have d4 : w3.cell? ⟨w.heap.size, 4, none⟩ = some (.int .i64 _) := P3.cell 4
    have e1 : w3.cell? ⟨w2.heap.size, 1, none⟩ = some (.int .i64 x1) := X3.cell 1
    clear B0 B1 B2 hb hb3 c0 c1 P1 P0 X3
    clear P3
    go_wp2_with fail
    go_ret
    exact ⟨ret_bool (by rw [← HQ.out]; simp [kernOK, *]), B3.out.alloc B3.out.size _⟩
  · -- no kern
    subst h4
    subst h5
    go_enter Try.func65, Try.ntmps65
    go_wp2_with fail
    refine (HL.out _ B0).mono ?_
    rintro e w2 ⟨rfl, hb⟩
    have s1 : w.heap.size < w2.heap.size := by have := hb.size; simp at this; omega
    have B1 := B0.trans (hb.mono (by simp))
    have P1 := P0.below hb
    have c0 : w2.cell? ⟨w.heap.size, 0, none⟩ = some (.int .i64 p0) := P1.cell 0
    have c1 : w2.cell? ⟨w.heap.size, 1, none⟩ = some (.int .i64 p1) := P1.cell 1
    have B2 : Below w.heap.size w (w2.alloc (.cells #[.int .i64 x0, .int .i64 x1, .int .i64 x2, .int .i64 x3] 33)) := B1.alloc B1.size _
    go_wp2_with fail
    refine (HR.out _ B2).mono ?_
    rintro e w3 ⟨rfl, hb3⟩
    have s2 : w2.heap.size < w3.heap.size := by have := hb3.size; simp at this; omega
    have s3 : w.heap.size < w3.heap.size := by omega
    have P3 := (P1.alloc (.cells #[.int .i64 x0, .int .i64 x1, .int .i64 x2, .int .i64 x3] 33)).below hb3
    have X3 := (Blk.new w2 #[.int .i64 x0, .int .i64 x1, .int .i64 x2, .int .i64 x3] 33 rfl).below hb3
    have B3 : Hid _ := B2.trans (hb3.mono B2.size)
    have d2 : w3.cell? ⟨w.heap.size, 2, none⟩ = some (.bool _) := P3.cell 2
    have d3 : w3.cell? ⟨w.heap.size, 3, none⟩ = some (.int .i64 _) := P3.cell 3
    have d4 : w3.cell? ⟨w.heap.size, 4, none⟩ = some (.int .i64 _) := P3.cell 4
    have e1 : w3.cell? ⟨w2.heap.size, 1, none⟩ = some (.int .i64 x1) := X3.cell 1
    clear B0 B1 B2 hb hb3 c0 c1 P1 P0 X3
    clear P3
    go_wp2_with fail
    go_ret
    exact ⟨ret_bool (by rw [← HQ.out]; simp [kernOK, *]), B3.out.alloc B3.out.size _⟩
  · -- too far back
    subst h4
    have HQ2 : Hid (false = q) := way_kern HQ.out h5 (kern_back h6)
    clear HQ
    go_enter Try.func65, Try.ntmps65
    go_wp2_with fail
    refine (HL.out _ B0).mono ?_
    rintro e w2 ⟨rfl, hb⟩
    have s1 : w.heap.size < w2.heap.size := by have := hb.size; simp at this; omega
    have B1 := B0.trans (hb.mono (by simp))
    have P1 := P0.below hb
    have c0 : w2.cell? ⟨w.heap.size, 0, none⟩ = some (.int .i64 p0) := P1.cell 0
    have c1 : w2.cell? ⟨w.heap.size, 1, none⟩ = some (.int .i64 p1) := P1.cell 1
    have B2 : Below w.heap.size w (w2.alloc (.cells #[.int .i64 x0, .int .i64 x1, .int .i64 x2, .int .i64 x3] 33)) := B1.alloc B1.size _
    go_wp2_with fail
    refine (HR.out _ B2).mono ?_
    rintro e w3 ⟨rfl, hb3⟩
    have s2 : w2.heap.size < w3.heap.size := by have := hb3.size; simp at this; omega
    have s3 : w.heap.size < w3.heap.size := by omega
    have P3 := (P1.alloc (.cells #[.int .i64 x0, .int .i64 x1, .int .i64 x2, .int .i64 x3] 33)).below hb3
    have X3 := (Blk.new w2 #[.int .i64 x0, .int .i64 x1, .int .i64 x2, .int .i64 x3] 33 rfl).below hb3
    have B3 : Hid _ := B2.trans (hb3.mono B2.size)
    have d2 : w3.cell? ⟨w.heap.size, 2, none⟩ = some (.bool _) := P3.cell 2
    have d3 : w3.cell? ⟨w.heap.size, 3, none⟩ = some (.int .i64 _) := P3.cell 3
    have d4 : w3.cell? ⟨w.heap.size, 4, none⟩ = some (.int .i64 _) := P3.cell 4
    have e1 : w3.cell? ⟨w2.heap.size, 1, none⟩ = some (.int .i64 x1) := X3.cell 1
    clear B0 B1 B2 hb hb3 c0 c1 P1 P0 X3
    clear P3
    rcases Int.lt_or_le y1 x1 with hm | hm
    · have h6' : ¬ -y1 ≤ kern := by omega
      clear h6
      go_wp2_with fail
      go_ret
      exact ⟨ret_bool (by first | exact HQ2.out | (rw [← HQ2.out]; simp [h5]; done) | (rw [← HQ2.out]; simp [h5]; omega)), B3.out.alloc B3.out.size _⟩
    · have h6' : ¬ -x1 ≤ kern := by omega
      have hm' : ¬ y1 < x1 := by omega
      clear h6
      go_wp2_with fail
      go_ret
      exact ⟨ret_bool (by first | exact HQ2.out | (rw [← HQ2.out]; simp [h5]; done) | (rw [← HQ2.out]; simp [h5]; omega)), B3.out.alloc B3.out.size _⟩
  · -- too far on
    subst h4
    have HQ2 : Hid (false = q) := way_kern HQ.out h5 (kern_on h7)
    clear HQ
    go_enter Try.func65, Try.ntmps65
    go_wp2_with fail
    refine (HL.out _ B0).mono ?_
    rintro e w2 ⟨rfl, hb⟩
    have s1 : w.heap.size < w2.heap.size := by have := hb.size; simp at this; omega
    have B1 := B0.trans (hb.mono (by simp))
    have P1 := P0.below hb
    have c0 : w2.cell? ⟨w.heap.size, 0, none⟩ = some (.int .i64 p0) := P1.cell 0
    have c1 : w2.cell? ⟨w.heap.size, 1, none⟩ = some (.int .i64 p1) := P1.cell 1
    have B2 : Below w.heap.size w (w2.alloc (.cells #[.int .i64 x0, .int .i64 x1, .int .i64 x2, .int .i64 x3] 33)) := B1.alloc B1.size _
    go_wp2_with fail
    refine (HR.out _ B2).mono ?_
    rintro e w3 ⟨rfl, hb3⟩
    have s2 : w2.heap.size < w3.heap.size := by have := hb3.size; simp at this; omega
    have s3 : w.heap.size < w3.heap.size := by omega
    have P3 := (P1.alloc (.cells #[.int .i64 x0, .int .i64 x1, .int .i64 x2, .int .i64 x3] 33)).below hb3
    have X3 := (Blk.new w2 #[.int .i64 x0, .int .i64 x1, .int .i64 x2, .int .i64 x3] 33 rfl).below hb3
    have B3 : Hid _ := B2.trans (hb3.mono B2.size)
    have d2 : w3.cell? ⟨w.heap.size, 2, none⟩ = some (.bool _) := P3.cell 2
    have d3 : w3.cell? ⟨w.heap.size, 3, none⟩ = some (.int .i64 _) := P3.cell 3
    have d4 : w3.cell? ⟨w.heap.size, 4, none⟩ = some (.int .i64 _) := P3.cell 4
    have e1 : w3.cell? ⟨w2.heap.size, 1, none⟩ = some (.int .i64 x1) := X3.cell 1
    clear B0 B1 B2 hb hb3 c0 c1 P1 P0 X3
    clear P3
    rcases Int.lt_or_le y1 x1 with hm | hm
    · have h6' : -y1 ≤ kern := by omega
      clear h6
      go_wp2_with fail
      go_ret
      exact ⟨ret_bool (by first | exact HQ2.out | (rw [← HQ2.out]; simp [h5]; done) | (rw [← HQ2.out]; simp [h5]; omega)), B3.out.alloc B3.out.size _⟩
    · have h6' : -x1 ≤ kern := by omega
      have hm' : ¬ y1 < x1 := by omega
      clear h6
      go_wp2_with fail
      go_ret
      exact ⟨ret_bool (by first | exact HQ2.out | (rw [← HQ2.out]; simp [h5]; done) | (rw [← HQ2.out]; simp [h5]; omega)), B3.out.alloc B3.out.size _⟩
  · -- a kern
    subst h4
    have HQ2 : Hid (true = q) := way_kern HQ.out h5 (kern_ok h6 h7)
    clear HQ
    go_enter Try.func65, Try.ntmps65
    go_wp2_with fail
    refine (HL.out _ B0).mono ?_
    rintro e w2 ⟨rfl, hb⟩
    have s1 : w.heap.size < w2.heap.size := by have := hb.size; simp at this; omega
    have B1 := B0.trans (hb.mono (by simp))
    have P1 := P0.below hb
    have c0 : w2.cell? ⟨w.heap.size, 0, none⟩ = some (.int .i64 p0) := P1.cell 0
    have c1 : w2.cell? ⟨w.heap.size, 1, none⟩ = some (.int .i64 p1) := P1.cell 1
    have B2 : Below w.heap.size w (w2.alloc (.cells #[.int .i64 x0, .int .i64 x1, .int .i64 x2, .int .i64 x3] 33)) := B1.alloc B1.size _
    go_wp2_with fail
    refine (HR.out _ B2).mono ?_
    rintro e w3 ⟨rfl, hb3⟩
    have s2 : w2.heap.size < w3.heap.size := by have := hb3.size; simp at this; omega
    have s3 : w.heap.size < w3.heap.size := by omega
    have P3 := (P1.alloc (.cells #[.int .i64 x0, .int .i64 x1, .int .i64 x2, .int .i64 x3] 33)).below hb3
    have X3 := (Blk.new w2 #[.int .i64 x0, .int .i64 x1, .int .i64 x2, .int .i64 x3] 33 rfl).below hb3
    have B3 : Hid _ := B2.trans (hb3.mono B2.size)
    have d2 : w3.cell? ⟨w.heap.size, 2, none⟩ = some (.bool _) := P3.cell 2
    have d3 : w3.cell? ⟨w.heap.size, 3, none⟩ = some (.int .i64 _) := P3.cell 3
    have d4 : w3.cell? ⟨w.heap.size, 4, none⟩ = some (.int .i64 _) := P3.cell 4
    have e1 : w3.cell? ⟨w2.heap.size, 1, none⟩ = some (.int .i64 x1) := X3.cell 1
    clear B0 B1 B2 hb hb3 c0 c1 P1 P0 X3
    clear P3
    rcases Int.lt_or_le y1 x1 with hm | hm
    · have h6' : -y1 ≤ kern := by omega
      clear h6
      go_wp2_with fail
      go_ret
      exact ⟨ret_bool (by first | exact HQ2.out | (rw [← HQ2.out]; simp [h5]; done) | (rw [← HQ2.out]; simp [h5]; omega)), B3.out.alloc B3.out.size _⟩
    · have h6' : -x1 ≤ kern := by omega
      have hm' : ¬ y1 < x1 := by omega
      clear h6
      go_wp2_with fail
      go_ret
      exact ⟨ret_bool (by first | exact HQ2.out | (rw [← HQ2.out]; simp [h5]; done) | (rw [← HQ2.out]; simp [h5]; omega)), B3.out.alloc B3.out.size _⟩
end Go.Proofs.Ytdinlaoimpoolaa
