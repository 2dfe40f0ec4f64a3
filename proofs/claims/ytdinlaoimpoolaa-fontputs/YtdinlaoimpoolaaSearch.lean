/- The library's search by halves over glyphs, by the table's own comparison; Glyph. -/
import Derived.Test.YtdinlaoimpoolaaAre
namespace Go.Proofs.Ytdinlaoimpoolaa
open Go.RowKit

def Rise (gs : List Gl) : Prop := ∀ (i j : Nat) (a b : Gl), gs[i]? = some a → gs[j]? = some b → i < j → a.1 < b.1
theorem rise_of : ∀ {a : Int} {gs : List Gl}, glOK a gs = true → Rise gs ∧ ∀ g ∈ gs, a < g.1
  | _, [], _ => ⟨fun i j a b h => by simp at h, fun g h => by simp at h⟩
  | a, g :: gs, h => by
    simp only [glOK, okG, Bool.and_eq_true, decide_eq_true_eq] at h
    obtain ⟨⟨_, h1, _⟩, h2⟩ := h
    obtain ⟨hr, hg⟩ := rise_of h2
    refine ⟨?_, ?_⟩
    · intro i j x y hx hy hij
      cases i with
      | zero =>
        cases j with
        | zero => omega
        | succ j =>
          simp at hx hy
          subst hx
          exact hg y (List.mem_of_getElem? hy)
      | succ i =>
        cases j with
        | zero => omega
        | succ j =>
          simp at hx hy
          exact hr i j x y hx hy (by omega)
    · intro x hx
      rcases List.mem_cons.1 hx with rfl | hx
      · exact h1
      · have := hg x hx; omega

/-- a rune's glyph -/
def lookG (gs : List Gl) (r : Int) : Option Gl := gs.find? fun g => decide (g.1 = r)
def gotG (gs : List Gl) (r : Int) : Gl := (lookG gs r).getD (0, 0, 0, 0)
def hasG (gs : List Gl) (r : Int) : Bool := (lookG gs r).isSome
/-- place i parts the lesser runes from the others -/
def Parts (gs : List Gl) (r : Int) (i : Nat) : Prop := i ≤ gs.length ∧ ∀ k g, gs[k]? = some g → (k < i → g.1 < r) ∧ (i ≤ k → r ≤ g.1)
def hitAt (gs : List Gl) (i : Nat) (r : Int) : Bool := match gs[i]? with
  | some g => decide (g.1 = r)
  | none => false
theorem hit_look {gs : List Gl} {r : Int} {i : Nat} (hr : Rise gs) (h : Parts gs r i) : hitAt gs i r = hasG gs r ∧ (hitAt gs i r = true → gs[i]? = some (gotG gs r)) := by
  obtain ⟨_, h2⟩ := h
  unfold hitAt hasG gotG lookG
  cases hf : gs.find? (fun g => decide (g.1 = r)) with
  | none =>
    have hn := List.find?_eq_none.1 hf
    cases hg : gs[i]? with
    | none => exact ⟨rfl, fun h => by cases h⟩
    | some g =>
      have : ¬ g.1 = r := by simpa using hn g (List.mem_of_getElem? hg)
      simp [this]
  | some x =>
    have hx := List.find?_some hf
    simp only [decide_eq_true_eq] at hx
    obtain ⟨k, hk⟩ := List.getElem?_of_mem (List.mem_of_find?_eq_some hf)
    have a := h2 k x hk
    have e : gs[i]? = some x := by
      rcases Nat.lt_trichotomy k i with q | q | q
      · have := a.1 q; omega
      · rw [← q]; exact hk
      · have hlt : i < gs.length := by
          rcases Nat.lt_or_ge k gs.length with z | z
          · omega
          · rw [List.getElem?_eq_none z] at hk; cases hk
        obtain ⟨y, hy⟩ := some_at hlt
        have b := h2 i y hy
        have c := hr i k y x hy hk q
        have := b.2 (Nat.le_refl _)
        omega
    rw [e]
    simp [hx]

set_option maxHeartbeats 400000 in
theorem cmpG_any (g : Gl) (r : Int) (w : World) : Calls Try.prog 84 #[.agg (cg g).toArray, .int .i64 r] w fun e w' => e = .returned (.int .i64 (cmpI g.1 r)) ∧ Below w.heap.size w w' := by
  obtain ⟨g0, g1, g2, g3⟩ := g
  simp only [cg]
  go_enter Try.func84, Try.ntmps84
  go_wp2_with (go_at_call 76; refine (compare_any _ _ _).mono ?_; rintro e w' ⟨rfl, rfl⟩)
  go_ret
  exact ⟨rfl, (Below.refl _ w).alloc (Nat.le_refl _) _⟩
theorem cmp_lt {x y : Int} (h : x < y) : cmpI x y = -1 := by unfold cmpI; rw [if_pos h]
theorem cmp_eq {x y : Int} (h : x = y) : cmpI x y = 0 := by unfold cmpI; rw [if_neg (by omega), if_neg (by omega)]
theorem cmp_gt {x y : Int} (h : y < x) : cmpI x y = 1 := by unfold cmpI; rw [if_neg (by omega), if_pos h]

set_option maxRecDepth 100000 in
set_option maxHeartbeats 4000000 in
theorem search_any (gs : List Gl) (hr : Rise gs) (ad : Option Addr) (cap : Nat) (r : Int) (w : World) (hn : gs.length ≤ 2147483647) (hs : Sl w ad gs.length (gs.flatMap cg)) :
    Calls Try.prog 83 #[.slice ad gs.length cap, .int .i64 r, .func (.func 84) #[] #[]] w fun e w' => ∃ i : Nat, Parts gs r i ∧ e = .returned (.tuple #[.int .i64 i, .bool (hitAt gs i r)]) ∧ Below w.heap.size w w' := by
  obtain ⟨n, hne⟩ : ∃ n, gs.length = n := ⟨_, rfl⟩
  have HN : Hid (gs.length = n) := hne
  have HS : Hid (Sl w ad gs.length (gs.flatMap cg)) := hs
  have HR : Hid (Rise gs) := hr
  rw [hne] at hn ⊢
  clear hne hs hr
  go_enter Try.func83, Try.ntmps83
  go_wp2_with fail
  go_loopw [9, 10] (fun vi vj wr => ∃ (i j : Nat), vi = .int .i64 i ∧ vj = .int .i64 j ∧ i ≤ j ∧ j ≤ n ∧ (∀ k g, gs[k]? = some g → (k < i → g.1 < r) ∧ (j ≤ k → r ≤ g.1)) ∧ Below w.heap.size w wr) (fun vi vj _ => (RowKit.intOf vj).toNat - (RowKit.intOf vi).toNat)
  case atStart => exact ⟨0, n, rfl, rfl, by omega, by omega, fun k g hg => ⟨fun h => by omega, fun h => by
    rw [List.getElem?_eq_none (by rw [HN.out]; exact h)] at hg; cases hg⟩, Below.refl _ _⟩
  case round =>
    obtain ⟨i, j, rfl, rfl, hij, hj, hp, hb⟩ := hrel
    have HB : Hid (Below w.heap.size w wr) := hb
    have HP : Hid (∀ k g, gs[k]? = some g → (k < i → g.1 < r) ∧ (j ≤ k → r ≤ g.1)) := hp
    clear hb hp
    by_cases hlt : i < j
    · obtain ⟨m, hm⟩ : ∃ m : Nat, ((i : Int) + (j : Int)) / 2 = (m : Int) := ⟨(i + j) / 2, by omega⟩
      have hm1 : i ≤ m := by omega
      have hm2 : m < j := by omega
      have hm3 : m < n := by omega
      obtain ⟨g, hg⟩ := some_at (xs := gs) (i := m) (by rw [HN.out]; exact hm3)
      obtain ⟨b, off, rfl, hbl, hga⟩ := HS.out.glyph hg
      have hga2 : GAt wr b (off + m * 4) g := by
        have f := fun o => HB.out.cell (p := ⟨b, o, none⟩) hbl
        exact ⟨(f _).trans hga.c0, (f _).trans hga.c1, (f _).trans hga.c2, (f _).trans hga.c3⟩
      obtain ⟨c0, c1, c2, c3⟩ := hga2
      have HG : Hid (gs[m]? = some g) := hg
      clear hg hga hbl
      have hc := fun W => cmpG_any g r W
      obtain ⟨g0, g1, g2, g3⟩ := g
      simp only [cg] at hc c0 c1 c2 c3
      rcases Int.lt_or_le g0 r with hx | hx
      · rw [cmp_lt hx] at hc
        have HC : Hid _ := hc
        clear hc
        go_wp2_with (go_at_call 84; refine (HC.out _).mono ?_; rintro e w2 ⟨rfl, hb2⟩)
        refine ⟨⟨m + 1, j, by go_num, rfl, by omega, hj, ?_, HB.out.trans (hb2.mono HB.out.size)⟩, ?_⟩
        · intro k g hk
          refine ⟨fun h => ?_, (HP.out k g hk).2⟩
          rcases Nat.lt_or_ge k m with q | q
          · have := HR.out k m g _ hk HG.out q
            simp only at this; omega
          · have e : k = m := by omega
            subst e
            rw [HG.out] at hk
            cases hk; exact hx
        · simp [RowKit.intOf]; omega
      · have hc2 : ∃ c : Int, 0 ≤ c ∧ ∀ W, Calls Try.prog 84 #[.agg #[.int .i64 g0, .int .i64 g1, .int .i64 g2, .int .i64 g3], .int .i64 r] W fun e w' => e = .returned (.int .i64 c) ∧ Below W.heap.size W w' := by
          refine ⟨cmpI g0 r, ?_, hc⟩
          unfold cmpI
          split
          · omega
          · split <;> omega
        obtain ⟨c, hc0, hc1⟩ := hc2
        have HC : Hid _ := hc1
        clear hc hc1
        go_wp2_with (go_at_call 84; refine (HC.out _).mono ?_; rintro e w2 ⟨rfl, hb2⟩)
        refine ⟨⟨i, m, rfl, rfl, by omega, by omega, ?_, HB.out.trans (hb2.mono HB.out.size)⟩, ?_⟩
        · intro k g hk
          refine ⟨(HP.out k g hk).1, fun h => ?_⟩
          rcases Nat.lt_or_ge m k with q | q
          · have := HR.out m k _ g HG.out hk q
            simp only at this; omega
          · have e : k = m := by omega
            subst e
            rw [HG.out] at hk
            cases hk; exact hx
        · simp [RowKit.intOf]; omega
    · have hji : j = i := by omega
      subst hji
      clear hlt
      have HPA : Hid (Parts gs r j) := ⟨by rw [HN.out]; exact hj, HP.out⟩
      by_cases hend : j < n
      · obtain ⟨g, hg⟩ := some_at (xs := gs) (i := j) (by rw [HN.out]; exact hend)
        obtain ⟨b, off, rfl, hbl, hga⟩ := HS.out.glyph hg
        have hga2 : GAt wr b (off + j * 4) g := by
          have f := fun o => HB.out.cell (p := ⟨b, o, none⟩) hbl
          exact ⟨(f _).trans hga.c0, (f _).trans hga.c1, (f _).trans hga.c2, (f _).trans hga.c3⟩
        obtain ⟨c0, c1, c2, c3⟩ := hga2
        have HG : Hid (gs[j]? = some g) := hg
        clear hg hga hbl
        have hc := fun W => cmpG_any g r W
        have hle : r ≤ g.1 := (HP.out j g HG.out).2 (Nat.le_refl _)
        obtain ⟨g0, g1, g2, g3⟩ := g
        simp only [cg] at hc c0 c1 c2 c3 hle
        by_cases hx : g0 = r
        · rw [cmp_eq hx] at hc
          have HC : Hid _ := hc
          have HX : Hid (g0 = r) := hx
          clear hc hx hle
          go_wp2_with (go_at_call 84; refine (HC.out _).mono ?_; rintro e w2 ⟨rfl, hb2⟩)
          go_ret2
          refine ⟨j, HPA.out, ?_, HB.out.trans (hb2.mono HB.out.size)⟩
          unfold hitAt; rw [HG.out]; simp [HX.out]
        · rw [cmp_gt (by omega)] at hc
          have HC : Hid _ := hc
          have HX : Hid (¬ g0 = r) := hx
          clear hc hx hle
          go_wp2_with (go_at_call 84; refine (HC.out _).mono ?_; rintro e w2 ⟨rfl, hb2⟩)
          go_ret2
          refine ⟨j, HPA.out, ?_, HB.out.trans (hb2.mono HB.out.size)⟩
          unfold hitAt; rw [HG.out]; simp [HX.out]
      · have hjn : j = n := by omega
        go_wp2_with fail
        go_ret2
        refine ⟨j, HPA.out, ?_, HB.out⟩
        unfold hitAt; rw [List.getElem?_eq_none (by rw [HN.out]; omega)]
        rfl

theorem bcell {W w1 : World} (hb : Below W.heap.size W w1) : (∀ b o, b < W.heap.size → w1.cell? ⟨b, o, none⟩ = W.cell? ⟨b, o, none⟩) ∧ (∀ b o, b < W.heap.size → w1.frozen? ⟨b, o, none⟩ = W.frozen? ⟨b, o, none⟩) :=
  ⟨fun b o h => hb.cell (p := ⟨b, o, none⟩) h, fun b o h => hb.frozen (p := ⟨b, o, none⟩) h⟩
theorem Blk.below {w w' : World} {b : Nat} {xs : List Value} {t : TypeId} (h : Blk w b xs t) (k : Below w.heap.size w w') : Blk w' b xs t := (k.block b h.lt).trans h
set_option maxRecDepth 100000 in
set_option maxHeartbeats 4000000 in
/-- Glyph -/
theorem glyph_any (gs : List Gl) (hr : Rise gs) (a : Nat) (em : Int) (ad : Option Addr) (cap : Nat) (mv : Value) (r : Int) (w : World) (hn : gs.length ≤ 2147483647) (hB : Blk w a [.int .i64 em, .slice ad gs.length cap, mv] 97) (hs : Sl w ad gs.length (gs.flatMap cg)) :
    Calls Try.prog 74 #[.pointer (some ⟨a, 0, none⟩), .int .i64 r] w fun e w' => e = .returned (.tuple #[.agg (cg (gotG gs r)).toArray, .bool (hasG gs r)]) ∧ Below w.heap.size w w' := by
  have HB : Hid (Below w.heap.size w (w.alloc (.cells #[.int .i64 0, .int .i64 0, .int .i64 0, .int .i64 0] 33))) := (Below.refl _ w).alloc (Nat.le_refl _) _
  have z0 := Blk.new w #[.int .i64 0, .int .i64 0, .int .i64 0, .int .i64 0] 33 rfl
  have a0 := hB.alloc (.cells #[.int .i64 0, .int .i64 0, .int .i64 0, .int .i64 0] 33)
  have HC : Hid (Calls Try.prog 83 _ (w.alloc (.cells #[.int .i64 0, .int .i64 0, .int .i64 0, .int .i64 0] 33)) _) := search_any gs hr ad cap r _ hn (hs.below HB.out)
  have HS : Hid (Sl w ad gs.length (gs.flatMap cg)) := hs
  obtain ⟨n, hne⟩ : ∃ n, gs.length = n := ⟨_, rfl⟩
  have HN : Hid (gs.length = n) := hne
  rw [hne] at hn a0 HC HS
  have c1 := a0.cell 1
  have hlt := hB.lt
  have hne2 : a ≠ w.heap.size := by omega
  clear hne hs hB
  go_enter Try.func74, Try.ntmps74
  go_wp2_with fail
  obtain ⟨W, hW⟩ : ∃ W, w.alloc (.cells #[.int .i64 0, .int .i64 0, .int .i64 0, .int .i64 0] 33) = W := ⟨_, rfl⟩
  have hz : W.heap.size = w.heap.size + 1 := by rw [← hW]; simp
  obtain ⟨h, hh⟩ : ∃ h, w.heap.size = h := ⟨_, rfl⟩
  rw [hW, hh] at z0 HB
  rw [hW] at a0 HC c1 ⊢
  rw [hh] at hlt hne2 hz ⊢
  have HH : Hid (w.heap.size = h) := hh
  clear hW hh
  refine HC.out.mono ?_
  rintro e w2 ⟨i, hp, rfl, hb2⟩
  obtain ⟨k1, k2⟩ := hit_look hr hp
  rw [k1] at k2 ⊢
  have HI : Hid (i ≤ gs.length) := hp.1
  have A2 := a0.below hb2
  have Z2 := z0.below hb2
  have c1' := A2.cell 1
  have z1 := Z2.cell 0
  have z2 := Z2.cell 1
  have z3 := Z2.cell 2
  have z4 := Z2.cell 3
  have f1 := Z2.froz 0
  have f2 := Z2.froz 1
  have f3 := Z2.froz 2
  have f4 := Z2.froz 3
  have HB2 : Hid (Below h w w2) := HB.out.trans (hb2.mono (by omega))
  have hsz := hb2.size
  clear HC c1 a0 hp hb2 A2
  cases hh : hasG gs r with
  | false =>
    have HG : Hid (gotG gs r = (0, 0, 0, 0)) := by
      unfold gotG
      unfold hasG at hh
      cases hl : lookG gs r with
      | none => rfl
      | some x => rw [hl] at hh; cases hh
    have HF : Hid (hasG gs r = false) := hh
    clear hh k1 k2
    go_wp2_with fail
    refine bodyPost_ret (v := .tuple #[.agg #[.int .i64 0, .int .i64 0, .int .i64 0, .int .i64 0], .bool false]) (by simp [results, Try.results74, go_sem, z1, z2, z3, z4]) rfl ⟨by rw [HG.out, HF.out]; rfl, ?_⟩
    rw [HH.out]
    exact (((HB2.out.setCell (p := ⟨h, 0, none⟩) (Nat.le_refl _) _).setCell (p := ⟨h, 1, none⟩) (Nat.le_refl _) _).setCell (p := ⟨h, 2, none⟩) (Nat.le_refl _) _).setCell (p := ⟨h, 3, none⟩) (Nat.le_refl _) _
  | true =>
    have HG : Hid (gs[i]? = some (gotG gs r)) := k2 hh
    have HS2 : Hid (Sl w ad gs.length (gs.flatMap cg)) := by rw [HN.out]; exact HS.out
    obtain ⟨b, off, rfl, hbl, hga⟩ := HS2.out.glyph HG.out
    have hin : (i : Int) < (n : Int) := by
      have := HG.out
      rcases Nat.lt_or_ge i gs.length with q | q
      · have := HN.out; omega
      · rw [List.getElem?_eq_none q] at this; cases this
    have hi0 : (0 : Int) ≤ (i : Int) := by omega
    have hga2 : GAt w2 b (off + i * 4) (gotG gs r) := by
      have f := fun o => HB2.out.cell (p := ⟨b, o, none⟩) (by rw [← HH.out]; exact hbl)
      exact ⟨(f _).trans hga.c0, (f _).trans hga.c1, (f _).trans hga.c2, (f _).trans hga.c3⟩
    obtain ⟨g0, g1, g2, g3⟩ := hga2
    obtain ⟨g, hgg⟩ : ∃ g, gotG gs r = g := ⟨_, rfl⟩
    have HGG : Hid (gotG gs r = g) := hgg
    rw [hgg] at g0 g1 g2 g3
    clear hgg
    obtain ⟨x0, x1, x2, x3⟩ := g
    simp only at g0 g1 g2 g3
    have HF : Hid (hasG gs r = true) := hh
    clear hh k1 k2 hga hbl
    go_wp2_with fail
    refine bodyPost_ret (v := .tuple #[.agg #[.int .i64 x0, .int .i64 x1, .int .i64 x2, .int .i64 x3], .bool true]) (by simp [results, Try.results74, go_sem, z1, z2, z3, z4]) rfl ⟨by rw [HF.out, HGG.out]; rfl, ?_⟩
    rw [HH.out]
    exact (((HB2.out.setCell (p := ⟨h, 0, none⟩) (Nat.le_refl _) _).setCell (p := ⟨h, 1, none⟩) (Nat.le_refl _) _).setCell (p := ⟨h, 2, none⟩) (Nat.le_refl _) _).setCell (p := ⟨h, 3, none⟩) (Nat.le_refl _) _
end Go.Proofs.Ytdinlaoimpoolaa
