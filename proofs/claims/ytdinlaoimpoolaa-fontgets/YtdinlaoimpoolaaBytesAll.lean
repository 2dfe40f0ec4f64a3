/- The sum, the sizes of parts, which numbers are runes. -/
import Derived.Test.YtdinlaoimpoolaaSpec
namespace Go.Proofs.Ytdinlaoimpoolaa
open Go.RowKit

theorem wrap_u32 (n : Int) : IntKind.u32.wrap n = n % 4294967296 := by simp [IntKind.wrap, IntKind.bits, IntKind.signed]
theorem xor_u32 (a b : Nat) (ha : a < 4294967296) (hb : b < 4294967296) : bits .xor .u32 (a : Int) (b : Int) = ((a ^^^ b : Nat) : Int) := by
  have hx : a ^^^ b < 2 ^ 32 := Nat.xor_lt_two_pow (by omega) (by omega)
  have h1 : (BitVec.ofInt 32 (a : Int)).toNat = a := by
    rw [BitVec.ofInt_natCast, BitVec.toNat_ofNat]; exact Nat.mod_eq_of_lt (by omega)
  have h2 : (BitVec.ofInt 32 (b : Int)).toNat = b := by
    rw [BitVec.ofInt_natCast, BitVec.toNat_ofNat]; exact Nat.mod_eq_of_lt (by omega)
  show IntKind.u32.wrap ((BitVec.ofInt 32 (a : Int) ^^^ BitVec.ofInt 32 (b : Int)).toNat : Int) = _
  rw [BitVec.toNat_xor, h1, h2, wrap_u32]
  omega
theorem wit_lt (s c : Nat) : wit s c < 4294967296 := Nat.mod_lt _ (by decide)
theorem or_i64 (a c : Nat) (ha : a < 16777216) (hc : c < 256) : bits .or .i64 ((a : Int) * 256) (c : Int) = ((a * 256 + c : Nat) : Int) := by
  have h1 : (BitVec.ofInt 64 ((a : Int) * 256)).toNat = a * 256 := by
    rw [show (a : Int) * 256 = ((a * 256 : Nat) : Int) by omega, BitVec.ofInt_natCast, BitVec.toNat_ofNat]; exact Nat.mod_eq_of_lt (by omega)
  have h2 : (BitVec.ofInt 64 (c : Int)).toNat = c := by
    rw [BitVec.ofInt_natCast, BitVec.toNat_ofNat]; exact Nat.mod_eq_of_lt (by omega)
  have h3 : a * 256 ||| c = a * 256 + c := by
    have := (Nat.two_pow_add_eq_or_of_lt (i := 8) (b := c) (by omega) a).symm
    rw [show 2 ^ 8 * a = a * 256 by omega] at this
    exact this
  show IntKind.i64.wrap ((BitVec.ofInt 64 ((a : Int) * 256) ||| BitVec.ofInt 64 (c : Int)).toNat : Int) = _
  rw [BitVec.toNat_or, h1, h2, h3]
  simp only [IntKind.wrap, IntKind.bits, IntKind.signed]
  simp
  omega

set_option maxHeartbeats 400000 in
theorem with_any (s c : Nat) (hs : s < 4294967296) (hc : c < 256) (w : World) : Calls Try.prog 55 #[.int .u32 s, .int .u8 c] w fun e w' => e = .returned (.int .u32 (wit s c)) ∧ w' = w := by
  have HE : Hid (((wit s c : Nat) : Int) = bits .xor .u32 (s : Int) (c : Int) * 16777619 % 4294967296) := by
    show _ = _
    rw [xor_u32 s c hs (by omega)]
    unfold wit
    omega
  rw [HE.out]
  clear HE
  go_enter Try.func55, Try.ntmps55
  go_wp2
  go_ret
  exact ⟨rfl, rfl⟩

set_option maxHeartbeats 1000000 in
theorem size_any (k : Nat) (hk : k ≤ 16) (w : World) : Calls Try.prog 56 #[.int .i64 k] w fun e w' => e = .returned (.int .i64 (sz k)) ∧ w' = w := by
  have all : ∀ (n : Nat), n ≤ 16 → (Calls Try.prog 56 #[.int .i64 n] w fun e w' => e = .returned (.int .i64 (sz n)) ∧ w' = w) := by
    intro n hn
    have hc : n = 0 ∨ n = 1 ∨ n = 2 ∨ n = 3 ∨ n = 4 ∨ n = 5 ∨ n = 6 ∨ n = 7 ∨ n = 8 ∨ n = 9 ∨ n = 10 ∨ n = 11 ∨ n = 12 ∨ n = 13 ∨ n = 14 ∨ n = 15 ∨ n = 16 := by omega
    rcases hc with rfl | rfl | rfl | rfl | rfl | rfl | rfl | rfl | rfl | rfl | rfl | rfl | rfl | rfl | rfl | rfl | rfl
    all_goals
      go_enter Try.func56, Try.ntmps56
      go_wp2
      go_ret
      exact ⟨rfl, rfl⟩
  exact all k hk

theorem width_yes (n : Nat) (h : n < 55296 ∨ (57343 < n ∧ n ≤ 1114111)) : widthI (n : Int) ≠ 0 := by
  unfold widthI
  repeat' split
  all_goals omega
theorem width_no (n : Nat) (h : ¬ (n < 55296 ∨ (57343 < n ∧ n ≤ 1114111))) : ¬ widthI (n : Int) ≠ 0 := by
  unfold widthI
  rw [if_pos (by omega)]
  exact fun h => h rfl
theorem rune_ways (n : Nat) : (n < 55296) ∨ (¬ n < 55296 ∧ n ≤ 57343) ∨ (¬ n < 55296 ∧ 57343 < n ∧ n ≤ 1114111) ∨ (¬ n < 55296 ∧ 57343 < n ∧ 1114111 < n) := by omega
set_option maxHeartbeats 1000000 in
theorem valid_any (n : Nat) (hn : n < 16777216) (w : World) : Calls Try.prog 78 #[.int .i32 n] w fun e w' => e = .returned (.bool (decide (widthI n ≠ 0))) ∧ w' = w := by
  rcases rune_ways n with h | ⟨h, h1⟩ | ⟨h, h1, h2⟩ | ⟨h, h1, h2⟩
  · rw [show decide (widthI (n : Int) ≠ 0) = true from decide_eq_true (width_yes n (by omega))]
    have h' : (n : Int) < 55296 := by omega
    clear h
    go_enter Try.func78, Try.ntmps78
    go_wp2
    go_ret
    exact ⟨rfl, rfl⟩
  · rw [show decide (widthI (n : Int) ≠ 0) = false from decide_eq_false (width_no n (by omega))]
    have h' : ¬ (n : Int) < 55296 := by omega
    have h'' : ¬ 57343 < (n : Int) := by omega
    clear h h1
    go_enter Try.func78, Try.ntmps78
    go_wp2
    go_ret
    exact ⟨rfl, rfl⟩
  · rw [show decide (widthI (n : Int) ≠ 0) = true from decide_eq_true (width_yes n (by omega))]
    have h' : ¬ (n : Int) < 55296 := by omega
    have h'' : 57343 < (n : Int) := by omega
    have h3 : (n : Int) ≤ 1114111 := by omega
    clear h h1 h2
    go_enter Try.func78, Try.ntmps78
    go_wp2
    go_ret
    exact ⟨rfl, rfl⟩
  · rw [show decide (widthI (n : Int) ≠ 0) = false from decide_eq_false (width_no n (by omega))]
    have h' : ¬ (n : Int) < 55296 := by omega
    have h'' : 57343 < (n : Int) := by omega
    have h3 : ¬ (n : Int) ≤ 1114111 := by omega
    clear h h1 h2
    go_enter Try.func78, Try.ntmps78
    go_wp2
    go_ret
    exact ⟨rfl, rfl⟩
end Go.Proofs.Ytdinlaoimpoolaa
namespace Go.Proofs.Ytdinlaoimpoolaa
open Go.RowKit

def rcells (s : St) (gv pv tv : Value) : List Value :=
  [.int .i64 s.nx, .int .i64 s.nu, .int .i64 s.bs, .int .u32 s.sm, .int .i64 s.em, gv, pv, .int .i64 s.ng, .int .i64 s.np,
   .int .i64 s.g.1, .int .i64 s.g.2.1, .int .i64 s.g.2.2.1, .int .i64 s.g.2.2.2, .int .i64 s.p.1, .int .i64 s.p.2.1, .bool s.p.2.2.1, .int .i64 s.p.2.2.2.1, .int .i64 s.p.2.2.2.2, tv]
/-- the reader lies at r, all that is its own from h on; T: has it a table? -/
structure Rd (h bp : Nat) (W : World) (r : Nat) (s : St) (gv pv tv : Value) (T : Prop) : Prop where
  blk : Blk W r (rcells s gv pv tv) 81
  rh : h ≤ r
  hb : h ≤ bp ∧ bp ≤ W.heap.size
  gr : W.ownsRow h 33 4 gv s.gs.length (s.gs.flatMap cg)
  pr : W.ownsRow bp 35 5 pv s.ps.length (s.ps.flatMap cp)
  pn : ¬ T → pv = .slice none 0 0
  tb : T → ∃ a B C, tv = .pointer (some ⟨a, 0, none⟩) ∧ r < B ∧ C ≤ bp ∧ Tab B C W a s.em s.gs []

theorem below4 {w W : World} {n k : Nat} (h : Below n w W) (hk : n ≤ k) (a b c d : Value) : Below n w ((((W.setCell ⟨k, 0, none⟩ a).setCell ⟨k, 1, none⟩ b).setCell ⟨k, 2, none⟩ c).setCell ⟨k, 3, none⟩ d) :=
  (((h.setCell (p := ⟨k, 0, none⟩) hk a).setCell (p := ⟨k, 1, none⟩) hk b).setCell (p := ⟨k, 2, none⟩) hk c).setCell (p := ⟨k, 3, none⟩) hk d
theorem below5 {w W : World} {n k : Nat} (h : Below n w W) (hk : n ≤ k) (a b c d e : Value) : Below n w (((((W.setCell ⟨k, 0, none⟩ a).setCell ⟨k, 1, none⟩ b).setCell ⟨k, 2, none⟩ c).setCell ⟨k, 3, none⟩ d).setCell ⟨k, 4, none⟩ e) :=
  (below4 h hk a b c d).setCell (p := ⟨k, 4, none⟩) hk e
theorem ahead_snoc (gs : List Gl) (g : Gl) : aheadG (gs ++ [g]) = g := by simp [aheadG]
theorem aheadP_snoc (ps : List Pr) (p : Pr) : aheadP (ps ++ [p]) = p := by simp [aheadP]
theorem aheadG_at {gs : List Gl} (h : gs.length ≠ 0) : gs[gs.length - 1]? = some (aheadG gs) := by
  unfold aheadG
  rw [List.getLast?_eq_getElem?]
  cases hh : gs[gs.length - 1]? with
  | none => have := List.getElem?_eq_none_iff.1 hh; omega
  | some x => rfl
theorem aheadP_at {ps : List Pr} (h : ps.length ≠ 0) : ps[ps.length - 1]? = some (aheadP ps) := by
  unfold aheadP
  rw [List.getLast?_eq_getElem?]
  cases hh : ps[ps.length - 1]? with
  | none => have := List.getElem?_eq_none_iff.1 hh; omega
  | some x => rfl

set_option maxRecDepth 100000 in
set_option maxHeartbeats 1000000 in
theorem glyphAhead_any (r : Nat) (gs : List Gl) (ad : Option Addr) (cap : Nat) (xs : List Value) (W : World) (hB : Blk W r xs 81) (h5 : xs[5]? = some (.slice ad gs.length cap)) (hs : Sl W ad gs.length (gs.flatMap cg)) (hn : gs.length ≤ 1024) :
    Calls Try.prog 79 #[.pointer (some ⟨r, 0, none⟩)] W fun e w' => e = .returned (.agg (cg (aheadG gs)).toArray) ∧ Below W.heap.size W w' := by
  have c5 : W.cell? ⟨r, 5, none⟩ = some (.slice ad gs.length cap) := (hB.cell 5).trans h5
  have hlt := hB.lt
  have hne : ¬ r = W.heap.size := by omega
  by_cases h0 : gs.length = 0
  · have e0 : aheadG gs = (-1, 0, 0, 0) := by rw [List.eq_nil_of_length_eq_zero h0]; rfl
    rw [e0]
    rw [h0] at c5
    clear e0 hs hn hB h5
    go_enter Try.func79, Try.ntmps79
    go_wp2
    refine bodyPost_ret (v := .agg #[.int .i64 (-1), .int .i64 0, .int .i64 0, .int .i64 0]) (by simp [results, Try.results79, go_sem]) rfl ⟨rfl, ?_⟩
    exact (Below.refl _ W).alloc (Nat.le_refl _) _
  · have hg := aheadG_at h0
    obtain ⟨b, off, rfl, hbl, hga⟩ := hs.glyph hg
    obtain ⟨n, hne'⟩ : ∃ n, gs.length = n := ⟨_, rfl⟩
    rw [hne'] at c5 h0 hn hga
    obtain ⟨g, hgg⟩ : ∃ g, aheadG gs = g := ⟨_, rfl⟩
    rw [hgg] at hga ⊢
    obtain ⟨g0, g1, g2, g3⟩ := hga
    have hbne : ¬ b = W.heap.size := by omega
    have h1 : ¬ (n : Int) = 0 := by omega
    have h2 : (0 : Int) ≤ (n : Int) - 1 := by omega
    have h3 : (n : Int) - 1 < (n : Int) := by omega
    have h4 : ((n : Int) - 1).toNat = n - 1 := by omega
    have h6 : (n : Int) ≤ 1024 := by omega
    clear hs hg hgg hne' hB h5 hn
    go_enter Try.func79, Try.ntmps79
    go_wp2
    go_region
    go_wp2
    refine bodyPost_ret (v := .agg (cg g).toArray) (by simp [results, Try.results79, go_sem, cg]) rfl ⟨rfl, ?_⟩
    exact ((Below.refl _ W).alloc (Nat.le_refl _) _).drew
set_option maxRecDepth 100000 in
set_option maxHeartbeats 1000000 in
theorem pairAhead_any (r : Nat) (ps : List Pr) (ad : Option Addr) (cap : Nat) (xs : List Value) (W : World) (hB : Blk W r xs 81) (h5 : xs[6]? = some (.slice ad ps.length cap)) (hs : Sl W ad ps.length (ps.flatMap cp)) (hn : ps.length ≤ 4096) :
    Calls Try.prog 81 #[.pointer (some ⟨r, 0, none⟩)] W fun e w' => e = .returned (.agg (cp (aheadP ps)).toArray) ∧ Below W.heap.size W w' := by
  have c5 : W.cell? ⟨r, 6, none⟩ = some (.slice ad ps.length cap) := (hB.cell 6).trans h5
  have hlt := hB.lt
  have hne : ¬ r = W.heap.size := by omega
  by_cases h0 : ps.length = 0
  · have e0 : aheadP ps = (-1, 0, false, 0, 0) := by rw [List.eq_nil_of_length_eq_zero h0]; rfl
    rw [e0]
    rw [h0] at c5
    clear e0 hs hn hB h5
    go_enter Try.func81, Try.ntmps81
    go_wp2
    refine bodyPost_ret (v := .agg #[.int .i64 (-1), .int .i64 0, .bool false, .int .i64 0, .int .i64 0]) (by simp [results, Try.results81, go_sem]) rfl ⟨rfl, ?_⟩
    exact (Below.refl _ W).alloc (Nat.le_refl _) _
  · have hg := aheadP_at h0
    obtain ⟨b, off, rfl, hbl, hga⟩ := hs.pair hg
    obtain ⟨n, hne'⟩ : ∃ n, ps.length = n := ⟨_, rfl⟩
    rw [hne'] at c5 h0 hn hga
    obtain ⟨g, hgg⟩ : ∃ g, aheadP ps = g := ⟨_, rfl⟩
    rw [hgg] at hga ⊢
    obtain ⟨g0, g1, g2, g3, g4⟩ := hga
    have hbne : ¬ b = W.heap.size := by omega
    have h1 : ¬ (n : Int) = 0 := by omega
    have h2 : (0 : Int) ≤ (n : Int) - 1 := by omega
    have h3 : (n : Int) - 1 < (n : Int) := by omega
    have h4 : ((n : Int) - 1).toNat = n - 1 := by omega
    have h6 : (n : Int) ≤ 4096 := by omega
    clear hs hg hgg hne' hB h5 hn
    go_enter Try.func81, Try.ntmps81
    go_wp2
    go_region
    go_wp2
    refine bodyPost_ret (v := .agg (cp g).toArray) (by simp [results, Try.results81, go_sem, cp]) rfl ⟨rfl, ?_⟩
    exact ((Below.refl _ W).alloc (Nat.le_refl _) _).drew
end Go.Proofs.Ytdinlaoimpoolaa
