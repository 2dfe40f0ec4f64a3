/- areUnits, areGlyphs: what may be glyphs. -/
import Derived.Test.YtdinlaoimpoolaaOrder
namespace Go.Proofs.Ytdinlaoimpoolaa
open Go.RowKit

theorem hid {p : Prop} (h : p) : Hid p := h
theorem ret_bool {a b : Bool} (h : a = b) : Ending.returned (.bool a) = .returned (.bool b) := by rw [h]
def units (g : Gl) : Bool := inU g.2.1 && (inU g.2.2.1 && inU g.2.2.2)
set_option maxHeartbeats 1000000 in
theorem units_any (x y z : Int) (b cap : Nat) (w : World) (h : Blk w b [.int .i64 x, .int .i64 y, .int .i64 z] 3) :
    Calls Try.prog 64 #[.slice (some ⟨b, 0, none⟩) 3 cap] w fun e w' => e = .returned (.bool (inU x && (inU y && inU z))) ∧ w' = w := by
  have h0 : w.cell? ⟨b, 0, none⟩ = some (.int .i64 x) := h.cell 0
  have h1 : w.cell? ⟨b, 1, none⟩ = some (.int .i64 y) := h.cell 1
  have h2 : w.cell? ⟨b, 2, none⟩ = some (.int .i64 z) := h.cell 2
  clear h
  rcases unit_ways x with hx | hx | hx
  · rw [inU_true hx, Bool.true_and]
    obtain ⟨x1, x2⟩ := hx
    rcases unit_ways y with hy | hy | hy
    · rw [inU_true hy, Bool.true_and]
      obtain ⟨y1, y2⟩ := hy
      rcases unit_ways z with hz | hz | hz
      · rw [inU_true hz]
        obtain ⟨z1, z2⟩ := hz
        go_enter Try.func64, Try.ntmps64
        go_wp2_with fail
        refine wp_loop_rounds 4 ?_
        rw [rounds_succ]
        go_wp2_with fail
        rw [rounds_succ]
        go_wp2_with fail
        rw [rounds_succ]
        go_wp2_with fail
        rw [rounds_succ]
        go_wp2_with fail
        go_ret
        exact ⟨rfl, rfl⟩
      all_goals
        rw [inU_false (by omega)]
        try obtain ⟨hz, hz2⟩ := hz
        go_enter Try.func64, Try.ntmps64
        go_wp2_with fail
        refine wp_loop_rounds 3 ?_
        rw [rounds_succ]
        go_wp2_with fail
        rw [rounds_succ]
        go_wp2_with fail
        rw [rounds_succ]
        go_wp2_with fail
        go_ret
        exact ⟨rfl, rfl⟩
    all_goals
      rw [inU_false (by omega), Bool.false_and]
      try obtain ⟨hy, hy2⟩ := hy
      go_enter Try.func64, Try.ntmps64
      go_wp2_with fail
      refine wp_loop_rounds 2 ?_
      rw [rounds_succ]
      go_wp2_with fail
      rw [rounds_succ]
      go_wp2_with fail
      go_ret
      exact ⟨rfl, rfl⟩
  all_goals
    rw [inU_false (by omega), Bool.false_and]
    try obtain ⟨hx, hx2⟩ := hx
    go_enter Try.func64, Try.ntmps64
    go_wp2_with fail
    refine wp_loop_rounds 1 ?_
    rw [rounds_succ]
    go_wp2_with fail
    go_ret
    exact ⟨rfl, rfl⟩

/-- may this one stand behind a? -/
def okG (a : Int) (g : Gl) : Bool := decide (widthI g.1 ≠ 0) && (decide (a < g.1) && units g)
def glOK : Int → List Gl → Bool
  | _, [] => true
  | a, g :: gs => okG a g && glOK g.1 gs
theorem glOK_drop {a : Int} {gs : List Gl} {k : Nat} {g : Gl} (h : gs[k]? = some g) : glOK a (gs.drop k) = (okG a g && glOK g.1 (gs.drop (k + 1))) := by
  have hl : k < gs.length := by
    rcases Nat.lt_or_ge k gs.length with q | q
    · exact q
    · rw [List.getElem?_eq_none q] at h; cases h
  rw [List.drop_eq_getElem_cons hl]
  have : gs[k] = g := by rw [List.getElem?_eq_getElem hl] at h; exact Option.some.inj h
  rw [this]; rfl
theorem okG_ways (a : Int) (g : Gl) : (widthI g.1 = 0 ∧ okG a g = false) ∨ (widthI g.1 ≠ 0 ∧ g.1 ≤ a ∧ okG a g = false) ∨ (widthI g.1 ≠ 0 ∧ ¬ g.1 ≤ a ∧ units g = false ∧ okG a g = false) ∨ (widthI g.1 ≠ 0 ∧ ¬ g.1 ≤ a ∧ units g = true ∧ okG a g = true) := by
  unfold okG
  by_cases h1 : widthI g.1 = 0
  · simp [h1]
  · by_cases h2 : g.1 ≤ a
    · have : ¬ a < g.1 := by omega
      simp [h1, h2, this]
    · have : a < g.1 := by omega
      cases h3 : units g <;> simp [h1, h2, this]

set_option maxRecDepth 100000 in
set_option maxHeartbeats 4000000 in
theorem areGlyphs_any (gs : List Gl) (ad : Option Addr) (cap : Nat) (w : World) (hn : gs.length ≤ 9223372036854775807) (hs : Sl w ad gs.length (gs.flatMap cg)) :
    Calls Try.prog 48 #[.slice ad gs.length cap] w fun e w' => e = .returned (.bool (glOK (-1) gs)) ∧ Below w.heap.size w w' := by
  obtain ⟨n, hne⟩ : ∃ n, gs.length = n := ⟨_, rfl⟩
  have HN : Hid (gs.length = n) := hne
  have HS : Hid (Sl w ad gs.length (gs.flatMap cg)) := hs
  rw [hne] at hn ⊢
  clear hne hs
  go_enter Try.func48, Try.ntmps48
  go_wp2_with fail
  go_loopw [3, 8] (fun va vi wr => ∃ (k : Nat) (a : Int), vi = .int .i64 k ∧ va = .int .i64 a ∧ k ≤ n ∧ glOK (-1) gs = glOK a (gs.drop k) ∧ Below w.heap.size w wr) (fun _ vi _ => n - (RowKit.intOf vi).toNat)
  case atStart => exact ⟨0, -1, rfl, rfl, by omega, rfl, Below.refl _ _⟩
  case round =>
    obtain ⟨k, a, rfl, rfl, hk, hgl, hb⟩ := hrel
    have HB : Hid (Below w.heap.size w wr) := hb
    by_cases hlt : k < n
    · obtain ⟨g, hg⟩ := some_at (xs := gs) (i := k) (by rw [HN.out]; exact hlt)
      rw [glOK_drop hg] at hgl
      have HG : Hid (glOK (-1) gs = (okG a g && glOK g.1 (gs.drop (k + 1)))) := hgl
      obtain ⟨b, off, rfl, hbl, hga⟩ := HS.out.glyph hg
      have hga2 : GAt wr b (off + k * 4) g := by
        have f := fun o => hb.cell (p := ⟨b, o, none⟩) hbl
        exact ⟨(f _).trans hga.c0, (f _).trans hga.c1, (f _).trans hga.c2, (f _).trans hga.c3⟩
      obtain ⟨c0, c1, c2, c3⟩ := hga2
      clear hg hgl hb hga hbl
      obtain ⟨r, wi, he, de⟩ := g
      have hw := fun W => width_any r W
      rcases okG_ways a (r, wi, he, de) with ⟨h1, h2⟩ | ⟨h1, h3, h2⟩ | ⟨h1, h3, h4, h2⟩ | ⟨h1, h3, h4, h2⟩
      all_goals
        have HO : Hid (okG a (r, wi, he, de) = _) := h2
        simp only at h1 c0 c1 c2 c3
        clear h2
        generalize widthI r = wd at *
        try simp only at h3
      · go_wp2_with (first | (go_at_call 63; refine (hw _).mono ?_; rintro e w' ⟨rfl, rfl⟩))
        go_ret
        exact ⟨ret_bool (by rw [HG.out, HO.out]; rfl), HB.out.alloc HB.out.size _⟩
      · go_wp2_with (first | (go_at_call 63; refine (hw _).mono ?_; rintro e w' ⟨rfl, rfl⟩))
        go_ret
        exact ⟨ret_bool (by rw [HG.out, HO.out]; rfl), HB.out.alloc HB.out.size _⟩
      · have HU : Hid (∀ (W : World) (b' : Nat), Blk W b' [.int .i64 wi, .int .i64 he, .int .i64 de] 3 → Calls Try.prog 64 #[.slice (some ⟨b', 0, none⟩) 3 3] W fun e w' => e = .returned (.bool false) ∧ w' = W) := fun W b' h => by
          have := units_any wi he de b' 3 W h
          rwa [show (inU wi && (inU he && inU de)) = false from h4] at this
        have hq := Blk.new (wr.alloc (.cells #[.int .i64 r, .int .i64 wi, .int .i64 he, .int .i64 de] 33)) #[.int .i64 wi, .int .i64 he, .int .i64 de] 3 (k := wr.heap.size + 1) (by simp)
        have HQ : Hid (Blk _ _ _ _) := hq
        have h1' : (wd == 0) = false := by simpa using h1
        have h3' : decide (r ≤ a) = false := decide_eq_false h3
        clear hq h4
        go_wp2_with (first | (go_at_call 63; refine (hw _).mono ?_; rintro e w' ⟨rfl, rfl⟩) | (go_at_call 64; refine (HU.out _ _ HQ.out).mono ?_; rintro e w' ⟨rfl, rfl⟩))
        go_ret
        exact ⟨ret_bool (by rw [HG.out, HO.out]; rfl), (HB.out.alloc HB.out.size _).alloc (by have := HB.out.size; simp; omega) _⟩
      · have HU : Hid (∀ (W : World) (b' : Nat), Blk W b' [.int .i64 wi, .int .i64 he, .int .i64 de] 3 → Calls Try.prog 64 #[.slice (some ⟨b', 0, none⟩) 3 3] W fun e w' => e = .returned (.bool true) ∧ w' = W) := fun W b' h => by
          have := units_any wi he de b' 3 W h
          rwa [show (inU wi && (inU he && inU de)) = true from h4] at this
        have hq := Blk.new (wr.alloc (.cells #[.int .i64 r, .int .i64 wi, .int .i64 he, .int .i64 de] 33)) #[.int .i64 wi, .int .i64 he, .int .i64 de] 3 (k := wr.heap.size + 1) (by simp)
        have HQ : Hid (Blk _ _ _ _) := hq
        have h1' : (wd == 0) = false := by simpa using h1
        have h3' : decide (r ≤ a) = false := decide_eq_false h3
        clear hq h4
        go_wp2_with (first | (go_at_call 63; refine (hw _).mono ?_; rintro e w' ⟨rfl, rfl⟩) | (go_at_call 64; refine (HU.out _ _ HQ.out).mono ?_; rintro e w' ⟨rfl, rfl⟩))
        refine ⟨⟨k + 1, r, by go_num, rfl, by omega, by rw [HG.out, HO.out]; rfl, (HB.out.alloc HB.out.size _).alloc (by have := HB.out.size; simp; omega) _⟩, ?_⟩
        simp [RowKit.intOf]; omega
    · have HE : Hid (glOK (-1) gs = true) := by rw [hgl, List.drop_eq_nil_of_le (by rw [HN.out]; omega)]; rfl
      clear hgl hb
      go_wp2_with fail
      go_ret
      exact ⟨ret_bool HE.out.symm, HB.out⟩
end Go.Proofs.Ytdinlaoimpoolaa
namespace Go.Proofs.Ytdinlaoimpoolaa
open Go.RowKit

def Rise (gs : List Gl) : Prop := ∀ (i j : Nat) (a b : Gl), gs[i]? = some a → gs[j]? = some b → i < j → a.1 < b.1
theorem rise_of : ∀ {a : Int} {gs : List Gl}, glOK a gs = true → Rise gs ∧ ∀ g ∈ gs, a < g.1
  | _, [], _ => ⟨fun i j a b h => by simp at h, fun g h => by simp at h⟩
  | a, g :: gs, h => by
    simp only [glOK, okG, Bool.and_eq_true, decide_eq_true_eq] at h
    obtain ⟨⟨_, h1, _⟩, h2⟩ := h
    obtain ⟨hr, hg⟩ := rise_of h2
    refine ⟨?_, ?_⟩
    · intro i j x y hx hy hij
      cases i with
      | zero =>
        cases j with
        | zero => omega
        | succ j =>
          simp at hx hy
          subst hx
          exact hg y (List.mem_of_getElem? hy)
      | succ i =>
        cases j with
        | zero => omega
        | succ j =>
          simp at hx hy
          exact hr i j x y hx hy (by omega)
    · intro x hx
      rcases List.mem_cons.1 hx with rfl | hx
      · exact h1
      · have := hg x hx; omega

/-- a rune's glyph -/
def lookG (gs : List Gl) (r : Int) : Option Gl := gs.find? fun g => decide (g.1 = r)
def gotG (gs : List Gl) (r : Int) : Gl := (lookG gs r).getD (0, 0, 0, 0)
def hasG (gs : List Gl) (r : Int) : Bool := (lookG gs r).isSome
/-- place i parts the lesser runes from the others -/
def Parts (gs : List Gl) (r : Int) (i : Nat) : Prop := i ≤ gs.length ∧ ∀ k g, gs[k]? = some g → (k < i → g.1 < r) ∧ (i ≤ k → r ≤ g.1)
def hitAt (gs : List Gl) (i : Nat) (r : Int) : Bool := match gs[i]? with
  | some g => decide (g.1 = r)
  | none => false
theorem hit_look {gs : List Gl} {r : Int} {i : Nat} (hr : Rise gs) (h : Parts gs r i) : hitAt gs i r = hasG gs r ∧ (hitAt gs i r = true → gs[i]? = some (gotG gs r)) := by
  obtain ⟨_, h2⟩ := h
  unfold hitAt hasG gotG lookG
  cases hf : gs.find? (fun g => decide (g.1 = r)) with
  | none =>
    have hn := List.find?_eq_none.1 hf
    cases hg : gs[i]? with
    | none => exact ⟨rfl, fun h => by cases h⟩
    | some g =>
      have : ¬ g.1 = r := by simpa using hn g (List.mem_of_getElem? hg)
      simp [this]
  | some x =>
    have hx := List.find?_some hf
    simp only [decide_eq_true_eq] at hx
    obtain ⟨k, hk⟩ := List.getElem?_of_mem (List.mem_of_find?_eq_some hf)
    have a := h2 k x hk
    have e : gs[i]? = some x := by
      rcases Nat.lt_trichotomy k i with q | q | q
      · have := a.1 q; omega
      · rw [← q]; exact hk
      · have hlt : i < gs.length := by
          rcases Nat.lt_or_ge k gs.length with z | z
          · omega
          · rw [List.getElem?_eq_none z] at hk; cases hk
        obtain ⟨y, hy⟩ := some_at hlt
        have b := h2 i y hy
        have c := hr i k y x hy hk q
        have := b.2 (Nat.le_refl _)
        omega
    rw [e]
    simp [hx]

set_option maxHeartbeats 400000 in
theorem cmpG_any (g : Gl) (r : Int) (w : World) : Calls Try.prog 84 #[.agg (cg g).toArray, .int .i64 r] w fun e w' => e = .returned (.int .i64 (cmpI g.1 r)) ∧ Below w.heap.size w w' := by
  obtain ⟨g0, g1, g2, g3⟩ := g
  simp only [cg]
  go_enter Try.func84, Try.ntmps84
  go_wp2_with (go_at_call 76; refine (compare_any _ _ _).mono ?_; rintro e w' ⟨rfl, rfl⟩)
  go_ret
  exact ⟨rfl, (Below.refl _ w).alloc (Nat.le_refl _) _⟩
theorem cmp_lt {x y : Int} (h : x < y) : cmpI x y = -1 := by unfold cmpI; rw [if_pos h]
theorem cmp_eq {x y : Int} (h : x = y) : cmpI x y = 0 := by unfold cmpI; rw [if_neg (by omega), if_neg (by omega)]
theorem cmp_gt {x y : Int} (h : y < x) : cmpI x y = 1 := by unfold cmpI; rw [if_neg (by omega), if_pos h]

set_option maxRecDepth 100000 in
set_option maxHeartbeats 4000000 in
theorem search_any (gs : List Gl) (hr : Rise gs) (ad : Option Addr) (cap : Nat) (r : Int) (w : World) (hn : gs.length ≤ 2147483647) (hs : Sl w ad gs.length (gs.flatMap cg)) :
    Calls Try.prog 83 #[.slice ad gs.length cap, .int .i64 r, .func (.func 84) #[] #[]] w fun e w' => ∃ i : Nat, Parts gs r i ∧ e = .returned (.tuple #[.int .i64 i, .bool (hitAt gs i r)]) ∧ Below w.heap.size w w' := by
  obtain ⟨n, hne⟩ : ∃ n, gs.length = n := ⟨_, rfl⟩
  have HN : Hid (gs.length = n) := hne
  have HS : Hid (Sl w ad gs.length (gs.flatMap cg)) := hs
  have HR : Hid (Rise gs) := hr
  rw [hne] at hn ⊢
  clear hne hs hr
  go_enter Try.func83, Try.ntmps83
  go_wp2_with fail
  go_loopw [9, 10] (fun vi vj wr => ∃ (i j : Nat), vi = .int .i64 i ∧ vj = .int .i64 j ∧ i ≤ j ∧ j ≤ n ∧ (∀ k g, gs[k]? = some g → (k < i → g.1 < r) ∧ (j ≤ k → r ≤ g.1)) ∧ Below w.heap.size w wr) (fun vi vj _ => (RowKit.intOf vj).toNat - (RowKit.intOf vi).toNat)
  case atStart => exact ⟨0, n, rfl, rfl, by omega, by omega, fun k g hg => ⟨fun h => by omega, fun h => by
    rw [List.getElem?_eq_none (by rw [HN.out]; exact h)] at hg; cases hg⟩, Below.refl _ _⟩
  case round =>
    obtain ⟨i, j, rfl, rfl, hij, hj, hp, hb⟩ := hrel
    have HB : Hid (Below w.heap.size w wr) := hb
    have HP : Hid (∀ k g, gs[k]? = some g → (k < i → g.1 < r) ∧ (j ≤ k → r ≤ g.1)) := hp
    clear hb hp
    by_cases hlt : i < j
    · obtain ⟨m, hm⟩ : ∃ m : Nat, ((i : Int) + (j : Int)) / 2 = (m : Int) := ⟨(i + j) / 2, by omega⟩
      have hm1 : i ≤ m := by omega
      have hm2 : m < j := by omega
      have hm3 : m < n := by omega
      obtain ⟨g, hg⟩ := some_at (xs := gs) (i := m) (by rw [HN.out]; exact hm3)
      obtain ⟨b, off, rfl, hbl, hga⟩ := HS.out.glyph hg
      have hga2 : GAt wr b (off + m * 4) g := by
        have f := fun o => HB.out.cell (p := ⟨b, o, none⟩) hbl
        exact ⟨(f _).trans hga.c0, (f _).trans hga.c1, (f _).trans hga.c2, (f _).trans hga.c3⟩
      obtain ⟨c0, c1, c2, c3⟩ := hga2
      have HG : Hid (gs[m]? = some g) := hg
      clear hg hga hbl
      have hc := fun W => cmpG_any g r W
      obtain ⟨g0, g1, g2, g3⟩ := g
      simp only [cg] at hc c0 c1 c2 c3
      rcases Int.lt_or_le g0 r with hx | hx
      · rw [cmp_lt hx] at hc
        have HC : Hid _ := hc
        clear hc
        go_wp2_with (go_at_call 84; refine (HC.out _).mono ?_; rintro e w2 ⟨rfl, hb2⟩)
        refine ⟨⟨m + 1, j, by go_num, rfl, by omega, hj, ?_, HB.out.trans (hb2.mono HB.out.size)⟩, ?_⟩
        · intro k g hk
          refine ⟨fun h => ?_, (HP.out k g hk).2⟩
          rcases Nat.lt_or_ge k m with q | q
          · have := HR.out k m g _ hk HG.out q
            simp only at this; omega
          · have e : k = m := by omega
            subst e
            rw [HG.out] at hk
            cases hk; exact hx
        · simp [RowKit.intOf]; omega
      · have hc2 : ∃ c : Int, 0 ≤ c ∧ ∀ W, Calls Try.prog 84 #[.agg #[.int .i64 g0, .int .i64 g1, .int .i64 g2, .int .i64 g3], .int .i64 r] W fun e w' => e = .returned (.int .i64 c) ∧ Below W.heap.size W w' := by
          refine ⟨cmpI g0 r, ?_, hc⟩
          unfold cmpI
          split
          · omega
          · split <;> omega
        obtain ⟨c, hc0, hc1⟩ := hc2
        have HC : Hid _ := hc1
        clear hc hc1
        go_wp2_with (go_at_call 84; refine (HC.out _).mono ?_; rintro e w2 ⟨rfl, hb2⟩)
        refine ⟨⟨i, m, rfl, rfl, by omega, by omega, ?_, HB.out.trans (hb2.mono HB.out.size)⟩, ?_⟩
        · intro k g hk
          refine ⟨(HP.out k g hk).1, fun h => ?_⟩
          rcases Nat.lt_or_ge m k with q | q
          · have := HR.out m k _ g HG.out hk q
            simp only at this; omega
          · have e : k = m := by omega
            subst e
            rw [HG.out] at hk
            cases hk; exact hx
        · simp [RowKit.intOf]; omega
    · have hji : j = i := by omega
      subst hji
      clear hlt
      have HPA : Hid (Parts gs r j) := ⟨by rw [HN.out]; exact hj, HP.out⟩
      by_cases hend : j < n
      · obtain ⟨g, hg⟩ := some_at (xs := gs) (i := j) (by rw [HN.out]; exact hend)
        obtain ⟨b, off, rfl, hbl, hga⟩ := HS.out.glyph hg
        have hga2 : GAt wr b (off + j * 4) g := by
          have f := fun o => HB.out.cell (p := ⟨b, o, none⟩) hbl
          exact ⟨(f _).trans hga.c0, (f _).trans hga.c1, (f _).trans hga.c2, (f _).trans hga.c3⟩
        obtain ⟨c0, c1, c2, c3⟩ := hga2
        have HG : Hid (gs[j]? = some g) := hg
        clear hg hga hbl
        have hc := fun W => cmpG_any g r W
        have hle : r ≤ g.1 := (HP.out j g HG.out).2 (Nat.le_refl _)
        obtain ⟨g0, g1, g2, g3⟩ := g
        simp only [cg] at hc c0 c1 c2 c3 hle
        by_cases hx : g0 = r
        · rw [cmp_eq hx] at hc
          have HC : Hid _ := hc
          have HX : Hid (g0 = r) := hx
          clear hc hx hle
          go_wp2_with (go_at_call 84; refine (HC.out _).mono ?_; rintro e w2 ⟨rfl, hb2⟩)
          go_ret2
          refine ⟨j, HPA.out, ?_, HB.out.trans (hb2.mono HB.out.size)⟩
          unfold hitAt; rw [HG.out]; simp [HX.out]
        · rw [cmp_gt (by omega)] at hc
          have HC : Hid _ := hc
          have HX : Hid (¬ g0 = r) := hx
          clear hc hx hle
          go_wp2_with (go_at_call 84; refine (HC.out _).mono ?_; rintro e w2 ⟨rfl, hb2⟩)
          go_ret2
          refine ⟨j, HPA.out, ?_, HB.out.trans (hb2.mono HB.out.size)⟩
          unfold hitAt; rw [HG.out]; simp [HX.out]
      · have hjn : j = n := by omega
        go_wp2_with fail
        go_ret2
        refine ⟨j, HPA.out, ?_, HB.out⟩
        unfold hitAt; rw [List.getElem?_eq_none (by rw [HN.out]; omega)]
        rfl

theorem bcell {W w1 : World} (hb : Below W.heap.size W w1) : (∀ b o, b < W.heap.size → w1.cell? ⟨b, o, none⟩ = W.cell? ⟨b, o, none⟩) ∧ (∀ b o, b < W.heap.size → w1.frozen? ⟨b, o, none⟩ = W.frozen? ⟨b, o, none⟩) :=
  ⟨fun b o h => hb.cell (p := ⟨b, o, none⟩) h, fun b o h => hb.frozen (p := ⟨b, o, none⟩) h⟩
theorem Blk.below {w w' : World} {b : Nat} {xs : List Value} {t : TypeId} (h : Blk w b xs t) (k : Below w.heap.size w w') : Blk w' b xs t := (k.block b h.lt).trans h
set_option maxRecDepth 100000 in
set_option maxHeartbeats 4000000 in
/-- Glyph -/
theorem glyph_any (gs : List Gl) (hr : Rise gs) (a : Nat) (em : Int) (ad : Option Addr) (cap : Nat) (mv : Value) (r : Int) (w : World) (hn : gs.length ≤ 2147483647) (hB : Blk w a [.int .i64 em, .slice ad gs.length cap, mv] 97) (hs : Sl w ad gs.length (gs.flatMap cg)) :
    Calls Try.prog 74 #[.pointer (some ⟨a, 0, none⟩), .int .i64 r] w fun e w' => e = .returned (.tuple #[.agg (cg (gotG gs r)).toArray, .bool (hasG gs r)]) ∧ Below w.heap.size w w' := by
  have HB : Hid (Below w.heap.size w (w.alloc (.cells #[.int .i64 0, .int .i64 0, .int .i64 0, .int .i64 0] 33))) := (Below.refl _ w).alloc (Nat.le_refl _) _
  have z0 := Blk.new w #[.int .i64 0, .int .i64 0, .int .i64 0, .int .i64 0] 33 rfl
  have a0 := hB.alloc (.cells #[.int .i64 0, .int .i64 0, .int .i64 0, .int .i64 0] 33)
  have HC : Hid (Calls Try.prog 83 _ (w.alloc (.cells #[.int .i64 0, .int .i64 0, .int .i64 0, .int .i64 0] 33)) _) := search_any gs hr ad cap r _ hn (hs.below HB.out)
  have HS : Hid (Sl w ad gs.length (gs.flatMap cg)) := hs
  obtain ⟨n, hne⟩ : ∃ n, gs.length = n := ⟨_, rfl⟩
  have HN : Hid (gs.length = n) := hne
  rw [hne] at hn a0 HC HS
  have c1 := a0.cell 1
  have hlt := hB.lt
  have hne2 : a ≠ w.heap.size := by omega
  clear hne hs hB
  go_enter Try.func74, Try.ntmps74
  go_wp2_with fail
  obtain ⟨W, hW⟩ : ∃ W, w.alloc (.cells #[.int .i64 0, .int .i64 0, .int .i64 0, .int .i64 0] 33) = W := ⟨_, rfl⟩
  have hz : W.heap.size = w.heap.size + 1 := by rw [← hW]; simp
  obtain ⟨h, hh⟩ : ∃ h, w.heap.size = h := ⟨_, rfl⟩
  rw [hW, hh] at z0 HB
  rw [hW] at a0 HC c1 ⊢
  rw [hh] at hlt hne2 hz ⊢
  have HH : Hid (w.heap.size = h) := hh
  clear hW hh
  refine HC.out.mono ?_
  rintro e w2 ⟨i, hp, rfl, hb2⟩
  obtain ⟨k1, k2⟩ := hit_look hr hp
  rw [k1] at k2 ⊢
  have HI : Hid (i ≤ gs.length) := hp.1
  have A2 := a0.below hb2
  have Z2 := z0.below hb2
  have c1' := A2.cell 1
  have z1 := Z2.cell 0
  have z2 := Z2.cell 1
  have z3 := Z2.cell 2
  have z4 := Z2.cell 3
  have f1 := Z2.froz 0
  have f2 := Z2.froz 1
  have f3 := Z2.froz 2
  have f4 := Z2.froz 3
  have HB2 : Hid (Below h w w2) := HB.out.trans (hb2.mono (by omega))
  have hsz := hb2.size
  clear HC c1 a0 hp hb2 A2
  cases hh : hasG gs r with
  | false =>
    have HG : Hid (gotG gs r = (0, 0, 0, 0)) := by
      unfold gotG
      unfold hasG at hh
      cases hl : lookG gs r with
      | none => rfl
      | some x => rw [hl] at hh; cases hh
    have HF : Hid (hasG gs r = false) := hh
    clear hh k1 k2
    go_wp2_with fail
    refine bodyPost_ret (v := .tuple #[.agg #[.int .i64 0, .int .i64 0, .int .i64 0, .int .i64 0], .bool false]) (by simp [results, Try.results74, go_sem, z1, z2, z3, z4]) rfl ⟨by rw [HG.out, HF.out]; rfl, ?_⟩
    rw [HH.out]
    exact (((HB2.out.setCell (p := ⟨h, 0, none⟩) (Nat.le_refl _) _).setCell (p := ⟨h, 1, none⟩) (Nat.le_refl _) _).setCell (p := ⟨h, 2, none⟩) (Nat.le_refl _) _).setCell (p := ⟨h, 3, none⟩) (Nat.le_refl _) _
  | true =>
    have HG : Hid (gs[i]? = some (gotG gs r)) := k2 hh
    have HS2 : Hid (Sl w ad gs.length (gs.flatMap cg)) := by rw [HN.out]; exact HS.out
    obtain ⟨b, off, rfl, hbl, hga⟩ := HS2.out.glyph HG.out
    have hin : (i : Int) < (n : Int) := by
      have := HG.out
      rcases Nat.lt_or_ge i gs.length with q | q
      · have := HN.out; omega
      · rw [List.getElem?_eq_none q] at this; cases this
    have hi0 : (0 : Int) ≤ (i : Int) := by omega
    have hga2 : GAt w2 b (off + i * 4) (gotG gs r) := by
      have f := fun o => HB2.out.cell (p := ⟨b, o, none⟩) (by rw [← HH.out]; exact hbl)
      exact ⟨(f _).trans hga.c0, (f _).trans hga.c1, (f _).trans hga.c2, (f _).trans hga.c3⟩
    obtain ⟨g0, g1, g2, g3⟩ := hga2
    obtain ⟨g, hgg⟩ : ∃ g, gotG gs r = g := ⟨_, rfl⟩
    have HGG : Hid (gotG gs r = g) := hgg
    rw [hgg] at g0 g1 g2 g3
    clear hgg
    obtain ⟨x0, x1, x2, x3⟩ := g
    simp only at g0 g1 g2 g3
    have HF : Hid (hasG gs r = true) := hh
    clear hh k1 k2 hga hbl
    go_wp2_with fail
    refine bodyPost_ret (v := .tuple #[.agg #[.int .i64 x0, .int .i64 x1, .int .i64 x2, .int .i64 x3], .bool true]) (by simp [results, Try.results74, go_sem, z1, z2, z3, z4]) rfl ⟨by rw [HF.out, HGG.out]; rfl, ?_⟩
    rw [HH.out]
    exact (((HB2.out.setCell (p := ⟨h, 0, none⟩) (Nat.le_refl _) _).setCell (p := ⟨h, 1, none⟩) (Nat.le_refl _) _).setCell (p := ⟨h, 2, none⟩) (Nat.le_refl _) _).setCell (p := ⟨h, 3, none⟩) (Nat.le_refl _) _
end Go.Proofs.Ytdinlaoimpoolaa
namespace Go.Proofs.Ytdinlaoimpoolaa
open Go.RowKit

def kernOK (a b k : Int) : Bool := decide (-(min a b) ≤ k) && decide (k ≤ 16384)
theorem kern_back {a b k : Int} (h : ¬ -(min a b) ≤ k) : kernOK a b k = false := by unfold kernOK; rw [decide_eq_false h]; rfl
theorem kern_on {a b k : Int} (h : ¬ k ≤ 16384) : kernOK a b k = false := by unfold kernOK; rw [decide_eq_false h, Bool.and_false]
theorem kern_ok {a b k : Int} (h : -(min a b) ≤ k) (h2 : k ≤ 16384) : kernOK a b k = true := by unfold kernOK; rw [decide_eq_true h, decide_eq_true h2]; rfl
theorem way_kern {hg k q : Bool} {c : Int} {o : Bool} (h : (true && (true && if false = true then hg && decide (c = 0) else decide ((0 : Int) = 0) && (decide (c ≠ 0) && o))) = q) (hc : c ≠ 0) (ho : o = k) : k = q := by
  subst ho; rw [← h]; simp [hc]
def pairOK (gs : List Gl) (p : Pr) : Bool :=
  hasG gs p.1 && (hasG gs p.2.1 && (if p.2.2.1 = true then hasG gs p.2.2.2.1 && decide (p.2.2.2.2 = 0) else decide (p.2.2.2.1 = 0) && (decide (p.2.2.2.2 ≠ 0) && kernOK (gotG gs p.1).2.1 (gotG gs p.2.1).2.1 p.2.2.2.2)))

/-- a table with these glyphs lies at a -/
structure TG (W : World) (a : Nat) (gs : List Gl) : Prop where
  rise : Rise gs
  len : gs.length ≤ 2147483647
  lies : ∃ em ad cap mv, Blk W a [.int .i64 em, .slice ad gs.length cap, mv] 97 ∧ Sl W ad gs.length (gs.flatMap cg)
theorem TG.below {W W' : World} {a : Nat} {gs : List Gl} (h : TG W a gs) (k : Below W.heap.size W W') : TG W' a gs := by
  obtain ⟨em, ad, cap, mv, h1, h2⟩ := h.lies
  exact ⟨h.rise, h.len, em, ad, cap, mv, h1.below k, h2.below k⟩
theorem TG.glyph {W : World} {a : Nat} {gs : List Gl} (h : TG W a gs) (r : Int) : Calls Try.prog 74 #[.pointer (some ⟨a, 0, none⟩), .int .i64 r] W fun e w' => e = .returned (.tuple #[.agg (cg (gotG gs r)).toArray, .bool (hasG gs r)]) ∧ Below W.heap.size W w' := by
  obtain ⟨em, ad, cap, mv, h1, h2⟩ := h.lies
  exact glyph_any gs h.rise a em ad cap mv r W h.len h1 h2
theorem units_of {a : Int} {gs : List Gl} (h : glOK a gs = true) : ∀ g ∈ gs, units g = true := by
  induction gs generalizing a with
  | nil => intro g hg; cases hg
  | cons x gs ih =>
    simp only [glOK, okG, Bool.and_eq_true] at h
    intro g hg
    rcases List.mem_cons.1 hg with rfl | hg
    · exact h.1.2.2
    · exact ih h.2 g hg
theorem wide_of {gs : List Gl} (h : ∀ g ∈ gs, units g = true) (r : Int) : 0 ≤ (gotG gs r).2.1 ∧ (gotG gs r).2.1 ≤ 16384 := by
  unfold gotG
  cases hf : lookG gs r with
  | none => simp
  | some x =>
    have := h x (List.mem_of_find?_eq_some hf)
    simp only [units, inU, Bool.and_eq_true, decide_eq_true_eq] at this
    exact this.1

theorem joins_ways (hl hr hg is : Bool) (lig kern a b : Int) : (hl = false) ∨ (hl = true ∧ hr = false) ∨ (hl = true ∧ hr = true ∧ is = true ∧ hg = false) ∨ (hl = true ∧ hr = true ∧ is = true ∧ hg = true ∧ kern = 0) ∨ (hl = true ∧ hr = true ∧ is = true ∧ hg = true ∧ kern ≠ 0) ∨
    (hl = true ∧ hr = true ∧ is = false ∧ lig ≠ 0) ∨ (hl = true ∧ hr = true ∧ is = false ∧ lig = 0 ∧ kern = 0) ∨ (hl = true ∧ hr = true ∧ is = false ∧ lig = 0 ∧ kern ≠ 0 ∧ ¬ -(min a b) ≤ kern) ∨
    (hl = true ∧ hr = true ∧ is = false ∧ lig = 0 ∧ kern ≠ 0 ∧ -(min a b) ≤ kern ∧ ¬ kern ≤ 16384) ∨ (hl = true ∧ hr = true ∧ is = false ∧ lig = 0 ∧ kern ≠ 0 ∧ -(min a b) ≤ kern ∧ kern ≤ 16384) := by
  by_cases h1 : lig = 0 <;> by_cases h2 : kern = 0 <;> by_cases h3 : -(min a b) ≤ kern <;> by_cases h4 : kern ≤ 16384 <;> cases hl <;> cases hr <;> cases hg <;> cases is <;> simp [h1, h2, h3, h4]

set_option maxRecDepth 100000 in
set_option maxHeartbeats 8000000 in
theorem joins_any (gs : List Gl) (hu : ∀ g ∈ gs, units g = true) (a : Nat) (p : Pr) (w : World) (hT : TG w a gs) :
    Calls Try.prog 65 #[.pointer (some ⟨a, 0, none⟩), .agg (cp p).toArray] w fun e w' => e = .returned (.bool (pairOK gs p)) ∧ Below w.heap.size w w' := by
  obtain ⟨p0, p1, is, lig, kern⟩ := p
  have w0 := wide_of hu p0
  have w1 := wide_of hu p1
  have HT : Hid (∀ r W, Below w.heap.size w W → Calls Try.prog 74 #[.pointer (some ⟨a, 0, none⟩), .int .i64 r] W fun e w' => e = .returned (.tuple #[.agg (cg (gotG gs r)).toArray, .bool (hasG gs r)]) ∧ Below W.heap.size W w') := fun r W h => (hT.below h).glyph r
  have ways := joins_ways (hasG gs p0) (hasG gs p1) (hasG gs lig) is lig kern (gotG gs p0).2.1 (gotG gs p1).2.1
  have HL := hid (HT.out p0)
  have HR := hid (HT.out p1)
  have HI := hid (HT.out lig)
  obtain ⟨q, hq⟩ : ∃ q, pairOK gs (p0, p1, is, lig, kern) = q := ⟨_, rfl⟩
  rw [hq]
  have HQ : Hid (pairOK gs (p0, p1, is, lig, kern) = q) := hq
  unfold pairOK at HQ
  simp only at HQ
  clear HT hT hu hq
  generalize hasG gs p0 = hl at *
  generalize hasG gs p1 = hr at *
  generalize hasG gs lig = hg at *
  generalize gotG gs p0 = g0 at *
  generalize gotG gs p1 = g1 at *
  generalize gotG gs lig = g2 at *
  obtain ⟨x0, x1, x2, x3⟩ := g0
  obtain ⟨y0, y1, y2, y3⟩ := g1
  obtain ⟨z0, z1, z2, z3⟩ := g2
  simp only [cg, cp] at *
  have P0 := Blk.new w #[.int .i64 p0, .int .i64 p1, .bool is, .int .i64 lig, .int .i64 kern] 35 rfl
  have B0 : Below w.heap.size w (w.alloc (.cells #[.int .i64 p0, .int .i64 p1, .bool is, .int .i64 lig, .int .i64 kern] 35)) := (Below.refl _ w).alloc (Nat.le_refl _) _
  rcases ways with h1 | ⟨h1, h2⟩ | ⟨h1, h2, h3, h4⟩ | ⟨h1, h2, h3, h4, h5⟩ | ⟨h1, h2, h3, h4, h5⟩ | ⟨h1, h2, h3, h4⟩ | ⟨h1, h2, h3, h4, h5⟩ | ⟨h1, h2, h3, h4, h5, h6⟩ | ⟨h1, h2, h3, h4, h5, h6, h7⟩ | ⟨h1, h2, h3, h4, h5, h6, h7⟩
  all_goals
    subst h1
    try subst h2
    try subst h3
  · -- no left
    go_enter Try.func65, Try.ntmps65
    go_wp2_with fail
    refine (HL.out _ B0).mono ?_
    rintro e w2 ⟨rfl, hb⟩
    have s1 : w.heap.size < w2.heap.size := by have := hb.size; simp at this; omega
    have B1 := B0.trans (hb.mono (by simp))
    have P1 := P0.below hb
    have c0 : w2.cell? ⟨w.heap.size, 0, none⟩ = some (.int .i64 p0) := P1.cell 0
    have c1 : w2.cell? ⟨w.heap.size, 1, none⟩ = some (.int .i64 p1) := P1.cell 1
    have B2 : Below w.heap.size w (w2.alloc (.cells #[.int .i64 x0, .int .i64 x1, .int .i64 x2, .int .i64 x3] 33)) := B1.alloc B1.size _
    go_wp2_with fail
    refine (HR.out _ B2).mono ?_
    rintro e w3 ⟨rfl, hb3⟩
    have s2 : w2.heap.size < w3.heap.size := by have := hb3.size; simp at this; omega
    have s3 : w.heap.size < w3.heap.size := by omega
    have P3 := (P1.alloc (.cells #[.int .i64 x0, .int .i64 x1, .int .i64 x2, .int .i64 x3] 33)).below hb3
    have X3 := (Blk.new w2 #[.int .i64 x0, .int .i64 x1, .int .i64 x2, .int .i64 x3] 33 rfl).below hb3
    have B3 : Hid _ := B2.trans (hb3.mono B2.size)
    have d2 : w3.cell? ⟨w.heap.size, 2, none⟩ = some (.bool _) := P3.cell 2
    have d3 : w3.cell? ⟨w.heap.size, 3, none⟩ = some (.int .i64 _) := P3.cell 3
    have d4 : w3.cell? ⟨w.heap.size, 4, none⟩ = some (.int .i64 _) := P3.cell 4
    have e1 : w3.cell? ⟨w2.heap.size, 1, none⟩ = some (.int .i64 x1) := X3.cell 1
    clear B0 B1 B2 hb hb3 c0 c1 P1 P0 X3
    clear P3 d2 d3 d4 e1
    go_wp2_with fail
    go_ret
    exact ⟨ret_bool (by rw [← HQ.out]; rfl), B3.out.alloc B3.out.size _⟩
  · -- no right
    go_enter Try.func65, Try.ntmps65
    go_wp2_with fail
    refine (HL.out _ B0).mono ?_
    rintro e w2 ⟨rfl, hb⟩
    have s1 : w.heap.size < w2.heap.size := by have := hb.size; simp at this; omega
    have B1 := B0.trans (hb.mono (by simp))
    have P1 := P0.below hb
    have c0 : w2.cell? ⟨w.heap.size, 0, none⟩ = some (.int .i64 p0) := P1.cell 0
    have c1 : w2.cell? ⟨w.heap.size, 1, none⟩ = some (.int .i64 p1) := P1.cell 1
    have B2 : Below w.heap.size w (w2.alloc (.cells #[.int .i64 x0, .int .i64 x1, .int .i64 x2, .int .i64 x3] 33)) := B1.alloc B1.size _
    go_wp2_with fail
    refine (HR.out _ B2).mono ?_
    rintro e w3 ⟨rfl, hb3⟩
    have s2 : w2.heap.size < w3.heap.size := by have := hb3.size; simp at this; omega
    have s3 : w.heap.size < w3.heap.size := by omega
    have P3 := (P1.alloc (.cells #[.int .i64 x0, .int .i64 x1, .int .i64 x2, .int .i64 x3] 33)).below hb3
    have X3 := (Blk.new w2 #[.int .i64 x0, .int .i64 x1, .int .i64 x2, .int .i64 x3] 33 rfl).below hb3
    have B3 : Hid _ := B2.trans (hb3.mono B2.size)
    have d2 : w3.cell? ⟨w.heap.size, 2, none⟩ = some (.bool _) := P3.cell 2
    have d3 : w3.cell? ⟨w.heap.size, 3, none⟩ = some (.int .i64 _) := P3.cell 3
    have d4 : w3.cell? ⟨w.heap.size, 4, none⟩ = some (.int .i64 _) := P3.cell 4
    have e1 : w3.cell? ⟨w2.heap.size, 1, none⟩ = some (.int .i64 x1) := X3.cell 1
    clear B0 B1 B2 hb hb3 c0 c1 P1 P0 X3
    clear P3 d2 d3 d4 e1
    go_wp2_with fail
    go_ret
    exact ⟨ret_bool (by rw [← HQ.out]; rfl), B3.out.alloc B3.out.size _⟩
  · -- a ligature of no glyph
    try subst h4
    go_enter Try.func65, Try.ntmps65
    go_wp2_with fail
    refine (HL.out _ B0).mono ?_
    rintro e w2 ⟨rfl, hb⟩
    have s1 : w.heap.size < w2.heap.size := by have := hb.size; simp at this; omega
    have B1 := B0.trans (hb.mono (by simp))
    have P1 := P0.below hb
    have c0 : w2.cell? ⟨w.heap.size, 0, none⟩ = some (.int .i64 p0) := P1.cell 0
    have c1 : w2.cell? ⟨w.heap.size, 1, none⟩ = some (.int .i64 p1) := P1.cell 1
    have B2 : Below w.heap.size w (w2.alloc (.cells #[.int .i64 x0, .int .i64 x1, .int .i64 x2, .int .i64 x3] 33)) := B1.alloc B1.size _
    go_wp2_with fail
    refine (HR.out _ B2).mono ?_
    rintro e w3 ⟨rfl, hb3⟩
    have s2 : w2.heap.size < w3.heap.size := by have := hb3.size; simp at this; omega
    have s3 : w.heap.size < w3.heap.size := by omega
    have P3 := (P1.alloc (.cells #[.int .i64 x0, .int .i64 x1, .int .i64 x2, .int .i64 x3] 33)).below hb3
    have X3 := (Blk.new w2 #[.int .i64 x0, .int .i64 x1, .int .i64 x2, .int .i64 x3] 33 rfl).below hb3
    have B3 : Hid _ := B2.trans (hb3.mono B2.size)
    have d2 : w3.cell? ⟨w.heap.size, 2, none⟩ = some (.bool _) := P3.cell 2
    have d3 : w3.cell? ⟨w.heap.size, 3, none⟩ = some (.int .i64 _) := P3.cell 3
    have d4 : w3.cell? ⟨w.heap.size, 4, none⟩ = some (.int .i64 _) := P3.cell 4
    have e1 : w3.cell? ⟨w2.heap.size, 1, none⟩ = some (.int .i64 x1) := X3.cell 1
    clear B0 B1 B2 hb hb3 c0 c1 P1 P0 X3
    have B4 : Hid _ := B3.out.alloc B3.out.size (.cells #[.int .i64 y0, .int .i64 y1, .int .i64 y2, .int .i64 y3] 33)
    have P4 := P3.alloc (.cells #[.int .i64 y0, .int .i64 y1, .int .i64 y2, .int .i64 y3] 33)
    clear P3
    go_wp2_with fail
    refine (HI.out _ B4.out).mono ?_
    rintro e w4 ⟨rfl, hb4⟩
    have s4 : w.heap.size < w4.heap.size := by have := hb4.size; simp at this; omega
    have f4 : w4.cell? ⟨w.heap.size, 4, none⟩ = some (.int .i64 _) := (P4.below hb4).cell 4
    have B5 : Hid _ := B4.out.trans (hb4.mono B4.out.size)
    clear hb4 P4 d2 d3 d4 e1
    go_wp2_with fail
    go_ret
    exact ⟨ret_bool (by rw [← HQ.out]; simp [*]), B5.out.alloc B5.out.size _⟩
  · -- a ligature
    subst h4
    subst h5
    go_enter Try.func65, Try.ntmps65
    go_wp2_with fail
    refine (HL.out _ B0).mono ?_
    rintro e w2 ⟨rfl, hb⟩
    have s1 : w.heap.size < w2.heap.size := by have := hb.size; simp at this; omega
    have B1 := B0.trans (hb.mono (by simp))
    have P1 := P0.below hb
    have c0 : w2.cell? ⟨w.heap.size, 0, none⟩ = some (.int .i64 p0) := P1.cell 0
    have c1 : w2.cell? ⟨w.heap.size, 1, none⟩ = some (.int .i64 p1) := P1.cell 1
    have B2 : Below w.heap.size w (w2.alloc (.cells #[.int .i64 x0, .int .i64 x1, .int .i64 x2, .int .i64 x3] 33)) := B1.alloc B1.size _
    go_wp2_with fail
    refine (HR.out _ B2).mono ?_
    rintro e w3 ⟨rfl, hb3⟩
    have s2 : w2.heap.size < w3.heap.size := by have := hb3.size; simp at this; omega
    have s3 : w.heap.size < w3.heap.size := by omega
    have P3 := (P1.alloc (.cells #[.int .i64 x0, .int .i64 x1, .int .i64 x2, .int .i64 x3] 33)).below hb3
    have X3 := (Blk.new w2 #[.int .i64 x0, .int .i64 x1, .int .i64 x2, .int .i64 x3] 33 rfl).below hb3
    have B3 : Hid _ := B2.trans (hb3.mono B2.size)
    have d2 : w3.cell? ⟨w.heap.size, 2, none⟩ = some (.bool _) := P3.cell 2
    have d3 : w3.cell? ⟨w.heap.size, 3, none⟩ = some (.int .i64 _) := P3.cell 3
    have d4 : w3.cell? ⟨w.heap.size, 4, none⟩ = some (.int .i64 _) := P3.cell 4
    have e1 : w3.cell? ⟨w2.heap.size, 1, none⟩ = some (.int .i64 x1) := X3.cell 1
    clear B0 B1 B2 hb hb3 c0 c1 P1 P0 X3
    have B4 : Hid _ := B3.out.alloc B3.out.size (.cells #[.int .i64 y0, .int .i64 y1, .int .i64 y2, .int .i64 y3] 33)
    have P4 := P3.alloc (.cells #[.int .i64 y0, .int .i64 y1, .int .i64 y2, .int .i64 y3] 33)
    clear P3
    go_wp2_with fail
    refine (HI.out _ B4.out).mono ?_
    rintro e w4 ⟨rfl, hb4⟩
    have s4 : w.heap.size < w4.heap.size := by have := hb4.size; simp at this; omega
    have f4 : w4.cell? ⟨w.heap.size, 4, none⟩ = some (.int .i64 _) := (P4.below hb4).cell 4
    have B5 : Hid _ := B4.out.trans (hb4.mono B4.out.size)
    clear hb4 P4 d2 d3 d4 e1
    go_wp2_with fail
    go_ret
    exact ⟨ret_bool (by rw [← HQ.out]; simp [*]), B5.out.alloc B5.out.size _⟩
  · -- a ligature with a kern
    try subst h4
    go_enter Try.func65, Try.ntmps65
    go_wp2_with fail
    refine (HL.out _ B0).mono ?_
    rintro e w2 ⟨rfl, hb⟩
    have s1 : w.heap.size < w2.heap.size := by have := hb.size; simp at this; omega
    have B1 := B0.trans (hb.mono (by simp))
    have P1 := P0.below hb
    have c0 : w2.cell? ⟨w.heap.size, 0, none⟩ = some (.int .i64 p0) := P1.cell 0
    have c1 : w2.cell? ⟨w.heap.size, 1, none⟩ = some (.int .i64 p1) := P1.cell 1
    have B2 : Below w.heap.size w (w2.alloc (.cells #[.int .i64 x0, .int .i64 x1, .int .i64 x2, .int .i64 x3] 33)) := B1.alloc B1.size _
    go_wp2_with fail
    refine (HR.out _ B2).mono ?_
    rintro e w3 ⟨rfl, hb3⟩
    have s2 : w2.heap.size < w3.heap.size := by have := hb3.size; simp at this; omega
    have s3 : w.heap.size < w3.heap.size := by omega
    have P3 := (P1.alloc (.cells #[.int .i64 x0, .int .i64 x1, .int .i64 x2, .int .i64 x3] 33)).below hb3
    have X3 := (Blk.new w2 #[.int .i64 x0, .int .i64 x1, .int .i64 x2, .int .i64 x3] 33 rfl).below hb3
    have B3 : Hid _ := B2.trans (hb3.mono B2.size)
    have d2 : w3.cell? ⟨w.heap.size, 2, none⟩ = some (.bool _) := P3.cell 2
    have d3 : w3.cell? ⟨w.heap.size, 3, none⟩ = some (.int .i64 _) := P3.cell 3
    have d4 : w3.cell? ⟨w.heap.size, 4, none⟩ = some (.int .i64 _) := P3.cell 4
    have e1 : w3.cell? ⟨w2.heap.size, 1, none⟩ = some (.int .i64 x1) := X3.cell 1
    clear B0 B1 B2 hb hb3 c0 c1 P1 P0 X3
    have B4 : Hid _ := B3.out.alloc B3.out.size (.cells #[.int .i64 y0, .int .i64 y1, .int .i64 y2, .int .i64 y3] 33)
    have P4 := P3.alloc (.cells #[.int .i64 y0, .int .i64 y1, .int .i64 y2, .int .i64 y3] 33)
    clear P3
    go_wp2_with fail
    refine (HI.out _ B4.out).mono ?_
    rintro e w4 ⟨rfl, hb4⟩
    have s4 : w.heap.size < w4.heap.size := by have := hb4.size; simp at this; omega
    have f4 : w4.cell? ⟨w.heap.size, 4, none⟩ = some (.int .i64 _) := (P4.below hb4).cell 4
    have B5 : Hid _ := B4.out.trans (hb4.mono B4.out.size)
    clear hb4 P4 d2 d3 d4 e1
    go_wp2_with fail
    go_ret
    exact ⟨ret_bool (by rw [← HQ.out]; simp [*]), B5.out.alloc B5.out.size _⟩
  · -- no ligature, one named
    go_enter Try.func65, Try.ntmps65
    go_wp2_with fail
    refine (HL.out _ B0).mono ?_
    rintro e w2 ⟨rfl, hb⟩
    have s1 : w.heap.size < w2.heap.size := by have := hb.size; simp at this; omega
    have B1 := B0.trans (hb.mono (by simp))
    have P1 := P0.below hb
    have c0 : w2.cell? ⟨w.heap.size, 0, none⟩ = some (.int .i64 p0) := P1.cell 0
    have c1 : w2.cell? ⟨w.heap.size, 1, none⟩ = some (.int .i64 p1) := P1.cell 1
    have B2 : Below w.heap.size w (w2.alloc (.cells #[.int .i64 x0, .int .i64 x1, .int .i64 x2, .int .i64 x3] 33)) := B1.alloc B1.size _
    go_wp2_with fail
    refine (HR.out _ B2).mono ?_
    rintro e w3 ⟨rfl, hb3⟩
    have s2 : w2.heap.size < w3.heap.size := by have := hb3.size; simp at this; omega
    have s3 : w.heap.size < w3.heap.size := by omega
    have P3 := (P1.alloc (.cells #[.int .i64 x0, .int .i64 x1, .int .i64 x2, .int .i64 x3] 33)).below hb3
    have X3 := (Blk.new w2 #[.int .i64 x0, .int .i64 x1, .int .i64 x2, .int .i64 x3] 33 rfl).below hb3
    have B3 : Hid _ := B2.trans (hb3.mono B2.size)
    have d2 : w3.cell? ⟨w.heap.size, 2, none⟩ = some (.bool _) := P3.cell 2
    have d3 : w3.cell? ⟨w.heap.size, 3, none⟩ = some (.int .i64 _) := P3.cell 3
    have d4 : w3.cell? ⟨w.heap.size, 4, none⟩ = some (.int .i64 _) := P3.cell 4
    have e1 : w3.cell? ⟨w2.heap.size, 1, none⟩ = some (.int .i64 x1) := X3.cell 1
    clear B0 B1 B2 hb hb3 c0 c1 P1 P0 X3
    clear P3
    go_wp2_with fail
    go_ret
    exact ⟨ret_bool (by rw [← HQ.out]; simp [kernOK, *]), B3.out.alloc B3.out.size _⟩
  · -- no kern
    subst h4
    subst h5
    go_enter Try.func65, Try.ntmps65
    go_wp2_with fail
    refine (HL.out _ B0).mono ?_
    rintro e w2 ⟨rfl, hb⟩
    have s1 : w.heap.size < w2.heap.size := by have := hb.size; simp at this; omega
    have B1 := B0.trans (hb.mono (by simp))
    have P1 := P0.below hb
    have c0 : w2.cell? ⟨w.heap.size, 0, none⟩ = some (.int .i64 p0) := P1.cell 0
    have c1 : w2.cell? ⟨w.heap.size, 1, none⟩ = some (.int .i64 p1) := P1.cell 1
    have B2 : Below w.heap.size w (w2.alloc (.cells #[.int .i64 x0, .int .i64 x1, .int .i64 x2, .int .i64 x3] 33)) := B1.alloc B1.size _
    go_wp2_with fail
    refine (HR.out _ B2).mono ?_
    rintro e w3 ⟨rfl, hb3⟩
    have s2 : w2.heap.size < w3.heap.size := by have := hb3.size; simp at this; omega
    have s3 : w.heap.size < w3.heap.size := by omega
    have P3 := (P1.alloc (.cells #[.int .i64 x0, .int .i64 x1, .int .i64 x2, .int .i64 x3] 33)).below hb3
    have X3 := (Blk.new w2 #[.int .i64 x0, .int .i64 x1, .int .i64 x2, .int .i64 x3] 33 rfl).below hb3
    have B3 : Hid _ := B2.trans (hb3.mono B2.size)
    have d2 : w3.cell? ⟨w.heap.size, 2, none⟩ = some (.bool _) := P3.cell 2
    have d3 : w3.cell? ⟨w.heap.size, 3, none⟩ = some (.int .i64 _) := P3.cell 3
    have d4 : w3.cell? ⟨w.heap.size, 4, none⟩ = some (.int .i64 _) := P3.cell 4
    have e1 : w3.cell? ⟨w2.heap.size, 1, none⟩ = some (.int .i64 x1) := X3.cell 1
    clear B0 B1 B2 hb hb3 c0 c1 P1 P0 X3
    clear P3
    go_wp2_with fail
    go_ret
    exact ⟨ret_bool (by rw [← HQ.out]; simp [kernOK, *]), B3.out.alloc B3.out.size _⟩
  · -- too far back
    subst h4
    have HQ2 : Hid (false = q) := way_kern HQ.out h5 (kern_back h6)
    clear HQ
    go_enter Try.func65, Try.ntmps65
    go_wp2_with fail
    refine (HL.out _ B0).mono ?_
    rintro e w2 ⟨rfl, hb⟩
    have s1 : w.heap.size < w2.heap.size := by have := hb.size; simp at this; omega
    have B1 := B0.trans (hb.mono (by simp))
    have P1 := P0.below hb
    have c0 : w2.cell? ⟨w.heap.size, 0, none⟩ = some (.int .i64 p0) := P1.cell 0
    have c1 : w2.cell? ⟨w.heap.size, 1, none⟩ = some (.int .i64 p1) := P1.cell 1
    have B2 : Below w.heap.size w (w2.alloc (.cells #[.int .i64 x0, .int .i64 x1, .int .i64 x2, .int .i64 x3] 33)) := B1.alloc B1.size _
    go_wp2_with fail
    refine (HR.out _ B2).mono ?_
    rintro e w3 ⟨rfl, hb3⟩
    have s2 : w2.heap.size < w3.heap.size := by have := hb3.size; simp at this; omega
    have s3 : w.heap.size < w3.heap.size := by omega
    have P3 := (P1.alloc (.cells #[.int .i64 x0, .int .i64 x1, .int .i64 x2, .int .i64 x3] 33)).below hb3
    have X3 := (Blk.new w2 #[.int .i64 x0, .int .i64 x1, .int .i64 x2, .int .i64 x3] 33 rfl).below hb3
    have B3 : Hid _ := B2.trans (hb3.mono B2.size)
    have d2 : w3.cell? ⟨w.heap.size, 2, none⟩ = some (.bool _) := P3.cell 2
    have d3 : w3.cell? ⟨w.heap.size, 3, none⟩ = some (.int .i64 _) := P3.cell 3
    have d4 : w3.cell? ⟨w.heap.size, 4, none⟩ = some (.int .i64 _) := P3.cell 4
    have e1 : w3.cell? ⟨w2.heap.size, 1, none⟩ = some (.int .i64 x1) := X3.cell 1
    clear B0 B1 B2 hb hb3 c0 c1 P1 P0 X3
    clear P3
    rcases Int.lt_or_le y1 x1 with hm | hm
    · have h6' : ¬ -y1 ≤ kern := by omega
      clear h6
      go_wp2_with fail
      go_ret
      exact ⟨ret_bool (by first | exact HQ2.out | (rw [← HQ2.out]; simp [h5]; done) | (rw [← HQ2.out]; simp [h5]; omega)), B3.out.alloc B3.out.size _⟩
    · have h6' : ¬ -x1 ≤ kern := by omega
      have hm' : ¬ y1 < x1 := by omega
      clear h6
      go_wp2_with fail
      go_ret
      exact ⟨ret_bool (by first | exact HQ2.out | (rw [← HQ2.out]; simp [h5]; done) | (rw [← HQ2.out]; simp [h5]; omega)), B3.out.alloc B3.out.size _⟩
  · -- too far on
    subst h4
    have HQ2 : Hid (false = q) := way_kern HQ.out h5 (kern_on h7)
    clear HQ
    go_enter Try.func65, Try.ntmps65
    go_wp2_with fail
    refine (HL.out _ B0).mono ?_
    rintro e w2 ⟨rfl, hb⟩
    have s1 : w.heap.size < w2.heap.size := by have := hb.size; simp at this; omega
    have B1 := B0.trans (hb.mono (by simp))
    have P1 := P0.below hb
    have c0 : w2.cell? ⟨w.heap.size, 0, none⟩ = some (.int .i64 p0) := P1.cell 0
    have c1 : w2.cell? ⟨w.heap.size, 1, none⟩ = some (.int .i64 p1) := P1.cell 1
    have B2 : Below w.heap.size w (w2.alloc (.cells #[.int .i64 x0, .int .i64 x1, .int .i64 x2, .int .i64 x3] 33)) := B1.alloc B1.size _
    go_wp2_with fail
    refine (HR.out _ B2).mono ?_
    rintro e w3 ⟨rfl, hb3⟩
    have s2 : w2.heap.size < w3.heap.size := by have := hb3.size; simp at this; omega
    have s3 : w.heap.size < w3.heap.size := by omega
    have P3 := (P1.alloc (.cells #[.int .i64 x0, .int .i64 x1, .int .i64 x2, .int .i64 x3] 33)).below hb3
    have X3 := (Blk.new w2 #[.int .i64 x0, .int .i64 x1, .int .i64 x2, .int .i64 x3] 33 rfl).below hb3
    have B3 : Hid _ := B2.trans (hb3.mono B2.size)
    have d2 : w3.cell? ⟨w.heap.size, 2, none⟩ = some (.bool _) := P3.cell 2
    have d3 : w3.cell? ⟨w.heap.size, 3, none⟩ = some (.int .i64 _) := P3.cell 3
    have d4 : w3.cell? ⟨w.heap.size, 4, none⟩ = some (.int .i64 _) := P3.cell 4
    have e1 : w3.cell? ⟨w2.heap.size, 1, none⟩ = some (.int .i64 x1) := X3.cell 1
    clear B0 B1 B2 hb hb3 c0 c1 P1 P0 X3
    clear P3
    rcases Int.lt_or_le y1 x1 with hm | hm
    · have h6' : -y1 ≤ kern := by omega
      clear h6
      go_wp2_with fail
      go_ret
      exact ⟨ret_bool (by first | exact HQ2.out | (rw [← HQ2.out]; simp [h5]; done) | (rw [← HQ2.out]; simp [h5]; omega)), B3.out.alloc B3.out.size _⟩
    · have h6' : -x1 ≤ kern := by omega
      have hm' : ¬ y1 < x1 := by omega
      clear h6
      go_wp2_with fail
      go_ret
      exact ⟨ret_bool (by first | exact HQ2.out | (rw [← HQ2.out]; simp [h5]; done) | (rw [← HQ2.out]; simp [h5]; omega)), B3.out.alloc B3.out.size _⟩
  · -- a kern
    subst h4
    have HQ2 : Hid (true = q) := way_kern HQ.out h5 (kern_ok h6 h7)
    clear HQ
    go_enter Try.func65, Try.ntmps65
    go_wp2_with fail
    refine (HL.out _ B0).mono ?_
    rintro e w2 ⟨rfl, hb⟩
    have s1 : w.heap.size < w2.heap.size := by have := hb.size; simp at this; omega
    have B1 := B0.trans (hb.mono (by simp))
    have P1 := P0.below hb
    have c0 : w2.cell? ⟨w.heap.size, 0, none⟩ = some (.int .i64 p0) := P1.cell 0
    have c1 : w2.cell? ⟨w.heap.size, 1, none⟩ = some (.int .i64 p1) := P1.cell 1
    have B2 : Below w.heap.size w (w2.alloc (.cells #[.int .i64 x0, .int .i64 x1, .int .i64 x2, .int .i64 x3] 33)) := B1.alloc B1.size _
    go_wp2_with fail
    refine (HR.out _ B2).mono ?_
    rintro e w3 ⟨rfl, hb3⟩
    have s2 : w2.heap.size < w3.heap.size := by have := hb3.size; simp at this; omega
    have s3 : w.heap.size < w3.heap.size := by omega
    have P3 := (P1.alloc (.cells #[.int .i64 x0, .int .i64 x1, .int .i64 x2, .int .i64 x3] 33)).below hb3
    have X3 := (Blk.new w2 #[.int .i64 x0, .int .i64 x1, .int .i64 x2, .int .i64 x3] 33 rfl).below hb3
    have B3 : Hid _ := B2.trans (hb3.mono B2.size)
    have d2 : w3.cell? ⟨w.heap.size, 2, none⟩ = some (.bool _) := P3.cell 2
    have d3 : w3.cell? ⟨w.heap.size, 3, none⟩ = some (.int .i64 _) := P3.cell 3
    have d4 : w3.cell? ⟨w.heap.size, 4, none⟩ = some (.int .i64 _) := P3.cell 4
    have e1 : w3.cell? ⟨w2.heap.size, 1, none⟩ = some (.int .i64 x1) := X3.cell 1
    clear B0 B1 B2 hb hb3 c0 c1 P1 P0 X3
    clear P3
    rcases Int.lt_or_le y1 x1 with hm | hm
    · have h6' : -y1 ≤ kern := by omega
      clear h6
      go_wp2_with fail
      go_ret
      exact ⟨ret_bool (by first | exact HQ2.out | (rw [← HQ2.out]; simp [h5]; done) | (rw [← HQ2.out]; simp [h5]; omega)), B3.out.alloc B3.out.size _⟩
    · have h6' : -x1 ≤ kern := by omega
      have hm' : ¬ y1 < x1 := by omega
      clear h6
      go_wp2_with fail
      go_ret
      exact ⟨ret_bool (by first | exact HQ2.out | (rw [← HQ2.out]; simp [h5]; done) | (rw [← HQ2.out]; simp [h5]; omega)), B3.out.alloc B3.out.size _⟩
end Go.Proofs.Ytdinlaoimpoolaa
