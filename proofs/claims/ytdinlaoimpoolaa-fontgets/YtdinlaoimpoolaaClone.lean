/- slices.Clone of glyphs; what a row of one's own reads. -/
import Derived.Test.YtdinlaoimpoolaaTake
import Derived.OwnWalk
import Derived.Lib.SliceRun
namespace Go.Proofs.Ytdinlaoimpoolaa
open Go.RowKit

theorem info45 : (Try.prog.info? 33).map (fun i => (i.zero, i.size, i.bytes)) = some (some (.agg #[.int .i64 0, .int .i64 0, .int .i64 0, .int .i64 0]), 4, 32) := by kernel_rfl
theorem info52 : (Try.prog.info? 35).map (fun i => (i.zero, i.size, i.bytes)) = some (some (.agg #[.int .i64 0, .int .i64 0, .bool false, .int .i64 0, .int .i64 0]), 5, 40) := by kernel_rfl
/-- all blocks of a slice lie from B on, below C -/
def Own (B C : Nat) (ad : Option Addr) : Prop := ∀ b off, ad = some ⟨b, off, none⟩ → B ≤ b ∧ b < C
theorem row_reads {w : World} {base size n : Nat} {e : TypeId} {v : Value} {xs : List Value} (h : w.ownsRow base e size v n xs) :
    ∃ ad cap, v = .slice ad n cap ∧ Sl w ad n xs ∧ Own base w.heap.size ad := by
  rcases h.2 with ⟨rfl, rfl⟩ | ⟨g, cap, cur, rfl, hb, hh, hn, hm, hs, hx⟩
  · exact ⟨none, 0, rfl, Sl.nil, fun b off e => by cases e⟩
  · have hlt : g < w.heap.size := by
      rcases Nat.lt_or_ge g w.heap.size with q | q
      · exact q
      · rw [Array.getElem?_eq_none q] at hh; cases hh
    refine ⟨_, cap, rfl, fun _ => ⟨g, 0, rfl, hlt, fun j u hj => ?_⟩, fun b off e => by cases e; exact ⟨hb, hlt⟩⟩
    rw [← hx, List.getElem?_take] at hj
    split at hj
    · simp only [World.cell?, hh, Nat.zero_add]
      simpa using hj
    · cases hj
theorem cg_one (gs : List Gl) : ∀ u ∈ gs.flatMap cg, u.oneCell' = true := by
  intro u hu
  simp only [List.mem_flatMap, cg] at hu
  obtain ⟨g, _, hu⟩ := hu
  simp at hu
  rcases hu with rfl | rfl | rfl | rfl <;> rfl
theorem cp_one (ps : List Pr) : ∀ u ∈ ps.flatMap cp, u.oneCell' = true := by
  intro u hu
  simp only [List.mem_flatMap, cp] at hu
  obtain ⟨g, _, hu⟩ := hu
  simp at hu
  rcases hu with rfl | rfl | rfl | rfl | rfl <;> rfl
theorem eql_nil22 (w : World) (a : Option Addr) (n c n' c' : Nat) : (binOp .eql 22 (.slice a n c) (.slice none n' c')).run Try.prog w = .ok (.bool a.isNone) w := Lib.run_eql_slice_nil w _ _ a n c n' c' Try.underlying22
set_option maxHeartbeats 2000000 in
set_option maxRecDepth 100000 in
theorem clone_any (gs : List Gl) (ad : Option Addr) (cap : Nat) (w : World) (hn : gs.length ≤ 1024) (hs : Sl w ad gs.length (gs.flatMap cg)) :
    Calls Try.prog 49 #[.slice ad gs.length cap] w fun e w' => ∃ ad' cap', e = .returned (.slice ad' gs.length cap') ∧ Sl w' ad' gs.length (gs.flatMap cg) ∧ Own w.heap.size w'.heap.size ad' ∧ Below w.heap.size w w' := by
  cases ad with
  | none =>
    have h0 : gs.length = 0 := by
      rcases Nat.eq_zero_or_pos gs.length with q | q
      · exact q
      · obtain ⟨b, off, e, _⟩ := hs (by omega); cases e
    have HG : Hid (gs.length = 0) := h0
    rw [h0]
    have hq := eql_nil22
    clear h0 hs hn
    go_enter Try.func49, Try.ntmps49
    go_wp2_with fail
    go_ret
    have HOW : Own w.heap.size w.heap.size none := fun b off e => by cases e
    refine ⟨none, 0, rfl, ?_⟩
    first | exact ⟨Sl.nil, HOW, Below.refl _ _⟩ | exact ⟨HOW, Below.refl _ _⟩
  | some ad =>
    obtain ⟨i0, hi, hz0, hz1, hz2⟩ := info_parts info45
    have hq := eql_nil22
    have HL : Hid ((gs.flatMap cg).length = gs.length * 4) := flat_len cg_len gs
    have HC : Hid (∀ j u, (gs.flatMap cg)[j]? = some u → (w.alloc (.cells #[] 33)).cell? (ad.add j) = some u) := by
      intro j u hj
      have h0 : gs.length ≠ 0 := fun e => by
        rw [List.eq_nil_of_length_eq_zero e] at hj; simp at hj
      obtain ⟨b, off, e, hb, ha⟩ := hs h0
      cases e
      have := ha j u hj
      have : (w.alloc (.cells #[] 33)).cell? ⟨b, off + j, none⟩ = some u := (((Below.refl _ w).alloc (Nat.le_refl _) (.cells #[] 33)).cell (p := ⟨b, off + j, none⟩) hb).trans this
      rw [Addr.add_lit]; exact this
    obtain ⟨n, hne⟩ : ∃ n, gs.length = n := ⟨_, rfl⟩
    rw [hne] at hn HL ⊢
    clear hs hne
    go_enter Try.func49, Try.ntmps49
    go_wp2_with (at_builtin; refine wpList_append_own _ rfl _ _ 22 rfl w.heap.size 33 i0 _ 4 32 Try.underlying22 hi hz0 hz1 hz2 rfl (by decide) _ _ _ rfl (World.ownsRow_made w #[] 0 (Nat.le_refl _) (Nat.zero_le _) (by simp)) ad n cap (gs.flatMap cg) rfl ?qc1 ?qc2 ?qc3 ?qc4 ?qc5 ?qc6 ?_)
    case qc1 => exact HL.out
    case qc2 => exact HC.out
    case qc3 => exact cg_one gs
    case qc4 => rw [Nat.zero_add]; unfold maxLen; omega
    case qc5 => rw [Nat.zero_add]; omega
    case qc6 => simp
    intro v' w1 hown hgrow _
    obtain ⟨ad', cap', rfl, hsl, how⟩ := row_reads hown
    try rw [Nat.zero_add] at hsl
    try rw [Nat.zero_add]
    have HB : Hid (Below w.heap.size w w1) := ((Below.refl _ w).alloc (Nat.le_refl _) _).grown hgrow (by simp) (by intro k hk; simp [Value.ownBlock] at hk; omega)
    have HS : Hid _ := hsl
    clear hown hgrow hsl
    go_wp2_with fail
    go_ret
    exact ⟨ad', cap', rfl, HS.out, how, HB.out⟩
end Go.Proofs.Ytdinlaoimpoolaa
