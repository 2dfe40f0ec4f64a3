/- What the reader holds; the glyph and the pair ahead; the table asked. -/
import Derived.Test.YtdinlaoimpoolaaBytes
namespace Go.Proofs.Ytdinlaoimpoolaa
open Go.RowKit

def rcells (s : St) (gv pv tv : Value) : List Value :=
  [.int .i64 s.nx, .int .i64 s.nu, .int .i64 s.bs, .int .u32 s.sm, .int .i64 s.em, gv, pv, .int .i64 s.ng, .int .i64 s.np,
   .int .i64 s.g.1, .int .i64 s.g.2.1, .int .i64 s.g.2.2.1, .int .i64 s.g.2.2.2, .int .i64 s.p.1, .int .i64 s.p.2.1, .bool s.p.2.2.1, .int .i64 s.p.2.2.2.1, .int .i64 s.p.2.2.2.2, tv]
/-- the reader lies at r, all that is its own from h on; T: has it a table? -/
structure Rd (h bp : Nat) (W : World) (r : Nat) (s : St) (gv pv tv : Value) (T : Prop) : Prop where
  blk : Blk W r (rcells s gv pv tv) 81
  rh : h ≤ r
  hb : h ≤ bp ∧ bp ≤ W.heap.size
  gr : W.ownsRow h 33 4 gv s.gs.length (s.gs.flatMap cg)
  pr : W.ownsRow bp 35 5 pv s.ps.length (s.ps.flatMap cp)
  pn : ¬ T → pv = .slice none 0 0
  tb : T → ∃ a B C, tv = .pointer (some ⟨a, 0, none⟩) ∧ r < B ∧ C ≤ bp ∧ Tab B C W a s.em s.gs []

theorem below4 {w W : World} {n k : Nat} (h : Below n w W) (hk : n ≤ k) (a b c d : Value) : Below n w ((((W.setCell ⟨k, 0, none⟩ a).setCell ⟨k, 1, none⟩ b).setCell ⟨k, 2, none⟩ c).setCell ⟨k, 3, none⟩ d) :=
  (((h.setCell (p := ⟨k, 0, none⟩) hk a).setCell (p := ⟨k, 1, none⟩) hk b).setCell (p := ⟨k, 2, none⟩) hk c).setCell (p := ⟨k, 3, none⟩) hk d
theorem below5 {w W : World} {n k : Nat} (h : Below n w W) (hk : n ≤ k) (a b c d e : Value) : Below n w (((((W.setCell ⟨k, 0, none⟩ a).setCell ⟨k, 1, none⟩ b).setCell ⟨k, 2, none⟩ c).setCell ⟨k, 3, none⟩ d).setCell ⟨k, 4, none⟩ e) :=
  (below4 h hk a b c d).setCell (p := ⟨k, 4, none⟩) hk e
theorem ahead_snoc (gs : List Gl) (g : Gl) : aheadG (gs ++ [g]) = g := by simp [aheadG]
theorem aheadP_snoc (ps : List Pr) (p : Pr) : aheadP (ps ++ [p]) = p := by simp [aheadP]
theorem aheadG_at {gs : List Gl} (h : gs.length ≠ 0) : gs[gs.length - 1]? = some (aheadG gs) := by
  unfold aheadG
  rw [List.getLast?_eq_getElem?]
  cases hh : gs[gs.length - 1]? with
  | none => have := List.getElem?_eq_none_iff.1 hh; omega
  | some x => rfl
theorem aheadP_at {ps : List Pr} (h : ps.length ≠ 0) : ps[ps.length - 1]? = some (aheadP ps) := by
  unfold aheadP
  rw [List.getLast?_eq_getElem?]
  cases hh : ps[ps.length - 1]? with
  | none => have := List.getElem?_eq_none_iff.1 hh; omega
  | some x => rfl

set_option maxRecDepth 100000 in
set_option maxHeartbeats 1000000 in
theorem glyphAhead_any (r : Nat) (gs : List Gl) (ad : Option Addr) (cap : Nat) (xs : List Value) (W : World) (hB : Blk W r xs 81) (h5 : xs[5]? = some (.slice ad gs.length cap)) (hs : Sl W ad gs.length (gs.flatMap cg)) (hn : gs.length ≤ 1024) :
    Calls Try.prog 79 #[.pointer (some ⟨r, 0, none⟩)] W fun e w' => e = .returned (.agg (cg (aheadG gs)).toArray) ∧ Below W.heap.size W w' := by
  have c5 : W.cell? ⟨r, 5, none⟩ = some (.slice ad gs.length cap) := (hB.cell 5).trans h5
  have hlt := hB.lt
  have hne : ¬ r = W.heap.size := by omega
  by_cases h0 : gs.length = 0
  · have e0 : aheadG gs = (-1, 0, 0, 0) := by rw [List.eq_nil_of_length_eq_zero h0]; rfl
    rw [e0]
    rw [h0] at c5
    clear e0 hs hn hB h5
    go_enter Try.func79, Try.ntmps79
    go_wp2
    refine bodyPost_ret (v := .agg #[.int .i64 (-1), .int .i64 0, .int .i64 0, .int .i64 0]) (by simp [results, Try.results79, go_sem]) rfl ⟨rfl, ?_⟩
    exact (Below.refl _ W).alloc (Nat.le_refl _) _
  · have hg := aheadG_at h0
    obtain ⟨b, off, rfl, hbl, hga⟩ := hs.glyph hg
    obtain ⟨n, hne'⟩ : ∃ n, gs.length = n := ⟨_, rfl⟩
    rw [hne'] at c5 h0 hn hga
    obtain ⟨g, hgg⟩ : ∃ g, aheadG gs = g := ⟨_, rfl⟩
    rw [hgg] at hga ⊢
    obtain ⟨g0, g1, g2, g3⟩ := hga
    have hbne : ¬ b = W.heap.size := by omega
    have h1 : ¬ (n : Int) = 0 := by omega
    have h2 : (0 : Int) ≤ (n : Int) - 1 := by omega
    have h3 : (n : Int) - 1 < (n : Int) := by omega
    have h4 : ((n : Int) - 1).toNat = n - 1 := by omega
    have h6 : (n : Int) ≤ 1024 := by omega
    clear hs hg hgg hne' hB h5 hn
    go_enter Try.func79, Try.ntmps79
    go_wp2
    go_region
    go_wp2
    refine bodyPost_ret (v := .agg (cg g).toArray) (by simp [results, Try.results79, go_sem, cg]) rfl ⟨rfl, ?_⟩
    exact ((Below.refl _ W).alloc (Nat.le_refl _) _).drew
set_option maxRecDepth 100000 in
set_option maxHeartbeats 1000000 in
theorem pairAhead_any (r : Nat) (ps : List Pr) (ad : Option Addr) (cap : Nat) (xs : List Value) (W : World) (hB : Blk W r xs 81) (h5 : xs[6]? = some (.slice ad ps.length cap)) (hs : Sl W ad ps.length (ps.flatMap cp)) (hn : ps.length ≤ 4096) :
    Calls Try.prog 81 #[.pointer (some ⟨r, 0, none⟩)] W fun e w' => e = .returned (.agg (cp (aheadP ps)).toArray) ∧ Below W.heap.size W w' := by
  have c5 : W.cell? ⟨r, 6, none⟩ = some (.slice ad ps.length cap) := (hB.cell 6).trans h5
  have hlt := hB.lt
  have hne : ¬ r = W.heap.size := by omega
  by_cases h0 : ps.length = 0
  · have e0 : aheadP ps = (-1, 0, false, 0, 0) := by rw [List.eq_nil_of_length_eq_zero h0]; rfl
    rw [e0]
    rw [h0] at c5
    clear e0 hs hn hB h5
    go_enter Try.func81, Try.ntmps81
    go_wp2
    refine bodyPost_ret (v := .agg #[.int .i64 (-1), .int .i64 0, .bool false, .int .i64 0, .int .i64 0]) (by simp [results, Try.results81, go_sem]) rfl ⟨rfl, ?_⟩
    exact (Below.refl _ W).alloc (Nat.le_refl _) _
  · have hg := aheadP_at h0
    obtain ⟨b, off, rfl, hbl, hga⟩ := hs.pair hg
    obtain ⟨n, hne'⟩ : ∃ n, ps.length = n := ⟨_, rfl⟩
    rw [hne'] at c5 h0 hn hga
    obtain ⟨g, hgg⟩ : ∃ g, aheadP ps = g := ⟨_, rfl⟩
    rw [hgg] at hga ⊢
    obtain ⟨g0, g1, g2, g3, g4⟩ := hga
    have hbne : ¬ b = W.heap.size := by omega
    have h1 : ¬ (n : Int) = 0 := by omega
    have h2 : (0 : Int) ≤ (n : Int) - 1 := by omega
    have h3 : (n : Int) - 1 < (n : Int) := by omega
    have h4 : ((n : Int) - 1).toNat = n - 1 := by omega
    have h6 : (n : Int) ≤ 4096 := by omega
    clear hs hg hgg hne' hB h5 hn
    go_enter Try.func81, Try.ntmps81
    go_wp2
    go_region
    go_wp2
    refine bodyPost_ret (v := .agg (cp g).toArray) (by simp [results, Try.results81, go_sem, cp]) rfl ⟨rfl, ?_⟩
    exact ((Below.refl _ W).alloc (Nat.le_refl _) _).drew
end Go.Proofs.Ytdinlaoimpoolaa
