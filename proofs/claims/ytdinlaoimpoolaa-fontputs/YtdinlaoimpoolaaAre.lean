/- areUnits, areGlyphs: what may be glyphs. -/
import Derived.Test.YtdinlaoimpoolaaOrder
namespace Go.Proofs.Ytdinlaoimpoolaa
open Go.RowKit

theorem hid {p : Prop} (h : p) : Hid p := h
theorem ret_bool {a b : Bool} (h : a = b) : Ending.returned (.bool a) = .returned (.bool b) := by rw [h]
def units (g : Gl) : Bool := inU g.2.1 && (inU g.2.2.1 && inU g.2.2.2)
set_option maxHeartbeats 1000000 in
theorem units_any (x y z : Int) (b cap : Nat) (w : World) (h : Blk w b [.int .i64 x, .int .i64 y, .int .i64 z] 3) :
    Calls Try.prog 64 #[.slice (some ⟨b, 0, none⟩) 3 cap] w fun e w' => e = .returned (.bool (inU x && (inU y && inU z))) ∧ w' = w := by
  have h0 : w.cell? ⟨b, 0, none⟩ = some (.int .i64 x) := h.cell 0
  have h1 : w.cell? ⟨b, 1, none⟩ = some (.int .i64 y) := h.cell 1
  have h2 : w.cell? ⟨b, 2, none⟩ = some (.int .i64 z) := h.cell 2
  clear h
  rcases unit_ways x with hx | hx | hx
  · rw [inU_true hx, Bool.true_and]
    obtain ⟨x1, x2⟩ := hx
    rcases unit_ways y with hy | hy | hy
    · rw [inU_true hy, Bool.true_and]
      obtain ⟨y1, y2⟩ := hy
      rcases unit_ways z with hz | hz | hz
      · rw [inU_true hz]
        obtain ⟨z1, z2⟩ := hz
        go_enter Try.func64, Try.ntmps64
        go_wp2_with fail
        refine wp_loop_rounds 4 ?_
        rw [rounds_succ]
        go_wp2_with fail
        rw [rounds_succ]
        go_wp2_with fail
        rw [rounds_succ]
        go_wp2_with fail
        rw [rounds_succ]
        go_wp2_with fail
        go_ret
        exact ⟨rfl, rfl⟩
      all_goals
        rw [inU_false (by omega)]
        try obtain ⟨hz, hz2⟩ := hz
        go_enter Try.func64, Try.ntmps64
        go_wp2_with fail
        refine wp_loop_rounds 3 ?_
        rw [rounds_succ]
        go_wp2_with fail
        rw [rounds_succ]
        go_wp2_with fail
        rw [rounds_succ]
        go_wp2_with fail
        go_ret
        exact ⟨rfl, rfl⟩
    all_goals
      rw [inU_false (by omega), Bool.false_and]
      try obtain ⟨hy, hy2⟩ := hy
      go_enter Try.func64, Try.ntmps64
      go_wp2_with fail
      refine wp_loop_rounds 2 ?_
      rw [rounds_succ]
      go_wp2_with fail
      rw [rounds_succ]
      go_wp2_with fail
      go_ret
      exact ⟨rfl, rfl⟩
  all_goals
    rw [inU_false (by omega), Bool.false_and]
    try obtain ⟨hx, hx2⟩ := hx
    go_enter Try.func64, Try.ntmps64
    go_wp2_with fail
    refine wp_loop_rounds 1 ?_
    rw [rounds_succ]
    go_wp2_with fail
    go_ret
    exact ⟨rfl, rfl⟩

/-- may this one stand behind a? -/
def okG (a : Int) (g : Gl) : Bool := decide (widthI g.1 ≠ 0) && (decide (a < g.1) && units g)
def glOK : Int → List Gl → Bool
  | _, [] => true
  | a, g :: gs => okG a g && glOK g.1 gs
theorem glOK_drop {a : Int} {gs : List Gl} {k : Nat} {g : Gl} (h : gs[k]? = some g) : glOK a (gs.drop k) = (okG a g && glOK g.1 (gs.drop (k + 1))) := by
  have hl : k < gs.length := by
    rcases Nat.lt_or_ge k gs.length with q | q
    · exact q
    · rw [List.getElem?_eq_none q] at h; cases h
  rw [List.drop_eq_getElem_cons hl]
  have : gs[k] = g := by rw [List.getElem?_eq_getElem hl] at h; exact Option.some.inj h
  rw [this]; rfl
theorem okG_ways (a : Int) (g : Gl) : (widthI g.1 = 0 ∧ okG a g = false) ∨ (widthI g.1 ≠ 0 ∧ g.1 ≤ a ∧ okG a g = false) ∨ (widthI g.1 ≠ 0 ∧ ¬ g.1 ≤ a ∧ units g = false ∧ okG a g = false) ∨ (widthI g.1 ≠ 0 ∧ ¬ g.1 ≤ a ∧ units g = true ∧ okG a g = true) := by
  unfold okG
  by_cases h1 : widthI g.1 = 0
  · simp [h1]
  · by_cases h2 : g.1 ≤ a
    · have : ¬ a < g.1 := by omega
      simp [h1, h2, this]
    · have : a < g.1 := by omega
      cases h3 : units g <;> simp [h1, h2, this]

set_option maxRecDepth 100000 in
set_option maxHeartbeats 4000000 in
theorem areGlyphs_any (gs : List Gl) (ad : Option Addr) (cap : Nat) (w : World) (hn : gs.length ≤ 9223372036854775807) (hs : Sl w ad gs.length (gs.flatMap cg)) :
    Calls Try.prog 48 #[.slice ad gs.length cap] w fun e w' => e = .returned (.bool (glOK (-1) gs)) ∧ Below w.heap.size w w' := by
  obtain ⟨n, hne⟩ : ∃ n, gs.length = n := ⟨_, rfl⟩
  have HN : Hid (gs.length = n) := hne
  have HS : Hid (Sl w ad gs.length (gs.flatMap cg)) := hs
  rw [hne] at hn ⊢
  clear hne hs
  go_enter Try.func48, Try.ntmps48
  go_wp2_with fail
  go_loopw [3, 8] (fun va vi wr => ∃ (k : Nat) (a : Int), vi = .int .i64 k ∧ va = .int .i64 a ∧ k ≤ n ∧ glOK (-1) gs = glOK a (gs.drop k) ∧ Below w.heap.size w wr) (fun _ vi _ => n - (RowKit.intOf vi).toNat)
  case atStart => exact ⟨0, -1, rfl, rfl, by omega, rfl, Below.refl _ _⟩
  case round =>
    obtain ⟨k, a, rfl, rfl, hk, hgl, hb⟩ := hrel
    have HB : Hid (Below w.heap.size w wr) := hb
    by_cases hlt : k < n
    · obtain ⟨g, hg⟩ := some_at (xs := gs) (i := k) (by rw [HN.out]; exact hlt)
      rw [glOK_drop hg] at hgl
      have HG : Hid (glOK (-1) gs = (okG a g && glOK g.1 (gs.drop (k + 1)))) := hgl
      obtain ⟨b, off, rfl, hbl, hga⟩ := HS.out.glyph hg
      have hga2 : GAt wr b (off + k * 4) g := by
        have f := fun o => hb.cell (p := ⟨b, o, none⟩) hbl
        exact ⟨(f _).trans hga.c0, (f _).trans hga.c1, (f _).trans hga.c2, (f _).trans hga.c3⟩
      obtain ⟨c0, c1, c2, c3⟩ := hga2
      clear hg hgl hb hga hbl
      obtain ⟨r, wi, he, de⟩ := g
      have hw := fun W => width_any r W
      rcases okG_ways a (r, wi, he, de) with ⟨h1, h2⟩ | ⟨h1, h3, h2⟩ | ⟨h1, h3, h4, h2⟩ | ⟨h1, h3, h4, h2⟩
      all_goals
        have HO : Hid (okG a (r, wi, he, de) = _) := h2
        simp only at h1 c0 c1 c2 c3
        clear h2
        generalize widthI r = wd at *
        try simp only at h3
      · go_wp2_with (first | (go_at_call 63; refine (hw _).mono ?_; rintro e w' ⟨rfl, rfl⟩))
        go_ret
        exact ⟨ret_bool (by rw [HG.out, HO.out]; rfl), HB.out.alloc HB.out.size _⟩
      · go_wp2_with (first | (go_at_call 63; refine (hw _).mono ?_; rintro e w' ⟨rfl, rfl⟩))
        go_ret
        exact ⟨ret_bool (by rw [HG.out, HO.out]; rfl), HB.out.alloc HB.out.size _⟩
      · have HU : Hid (∀ (W : World) (b' : Nat), Blk W b' [.int .i64 wi, .int .i64 he, .int .i64 de] 3 → Calls Try.prog 64 #[.slice (some ⟨b', 0, none⟩) 3 3] W fun e w' => e = .returned (.bool false) ∧ w' = W) := fun W b' h => by
          have := units_any wi he de b' 3 W h
          rwa [show (inU wi && (inU he && inU de)) = false from h4] at this
        have hq := Blk.new (wr.alloc (.cells #[.int .i64 r, .int .i64 wi, .int .i64 he, .int .i64 de] 33)) #[.int .i64 wi, .int .i64 he, .int .i64 de] 3 (k := wr.heap.size + 1) (by simp)
        have HQ : Hid (Blk _ _ _ _) := hq
        have h1' : (wd == 0) = false := by simpa using h1
        have h3' : decide (r ≤ a) = false := decide_eq_false h3
        clear hq h4
        go_wp2_with (first | (go_at_call 63; refine (hw _).mono ?_; rintro e w' ⟨rfl, rfl⟩) | (go_at_call 64; refine (HU.out _ _ HQ.out).mono ?_; rintro e w' ⟨rfl, rfl⟩))
        go_ret
        exact ⟨ret_bool (by rw [HG.out, HO.out]; rfl), (HB.out.alloc HB.out.size _).alloc (by have := HB.out.size; simp; omega) _⟩
      · have HU : Hid (∀ (W : World) (b' : Nat), Blk W b' [.int .i64 wi, .int .i64 he, .int .i64 de] 3 → Calls Try.prog 64 #[.slice (some ⟨b', 0, none⟩) 3 3] W fun e w' => e = .returned (.bool true) ∧ w' = W) := fun W b' h => by
          have := units_any wi he de b' 3 W h
          rwa [show (inU wi && (inU he && inU de)) = true from h4] at this
        have hq := Blk.new (wr.alloc (.cells #[.int .i64 r, .int .i64 wi, .int .i64 he, .int .i64 de] 33)) #[.int .i64 wi, .int .i64 he, .int .i64 de] 3 (k := wr.heap.size + 1) (by simp)
        have HQ : Hid (Blk _ _ _ _) := hq
        have h1' : (wd == 0) = false := by simpa using h1
        have h3' : decide (r ≤ a) = false := decide_eq_false h3
        clear hq h4
        go_wp2_with (first | (go_at_call 63; refine (hw _).mono ?_; rintro e w' ⟨rfl, rfl⟩) | (go_at_call 64; refine (HU.out _ _ HQ.out).mono ?_; rintro e w' ⟨rfl, rfl⟩))
        refine ⟨⟨k + 1, r, by go_num, rfl, by omega, by rw [HG.out, HO.out]; rfl, (HB.out.alloc HB.out.size _).alloc (by have := HB.out.size; simp; omega) _⟩, ?_⟩
        simp [RowKit.intOf]; omega
    · have HE : Hid (glOK (-1) gs = true) := by rw [hgl, List.drop_eq_nil_of_le (by rw [HN.out]; omega)]; rfl
      clear hgl hb
      go_wp2_with fail
      go_ret
      exact ⟨ret_bool HE.out.symm, HB.out⟩
end Go.Proofs.Ytdinlaoimpoolaa
