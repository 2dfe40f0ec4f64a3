/- The reference's New: the first that is wrong, or a table with lists of its own. -/
import Derived.Test.YtdinlaoimpoolaaRefCheckAll
import Derived.Test.YtdinlaoimpoolaaApp
import Derived.Deep.RegionLaw
namespace Go.Proofs.Ytdinlaoimpoolaa
open Go.RowKit

/-- the reference's table lies at a -/
structure RT (W : World) (a : Nat) (em : Int) (gs : List Gl) (ps : List Pr) (ag : Option Addr) (ca : Nat) (ap : Option Addr) (cb : Nat) : Prop where
  blk : Blk W a [.int .i64 em, .slice ag gs.length ca, .slice ap ps.length cb] 105
  sg : Sl W ag gs.length (gs.flatMap cg)
  sp : Sl W ap ps.length (ps.flatMap cp)
theorem RT.below {W W' : World} {a : Nat} {em : Int} {gs : List Gl} {ps : List Pr} {ag ap : Option Addr} {ca cb : Nat} (h : RT W a em gs ps ag ca ap cb) (k : Below W.heap.size W W') : RT W' a em gs ps ag ca ap cb :=
  ⟨h.blk.below k, h.sg.below k, h.sp.below k⟩


theorem Grew.nil {w w' : World} {v' : Value} (h : Grew w w' (.slice none 0 0) v') : Below w.heap.size w w' := by
  have g := h.grown
  exact ⟨g.os, g.tape, g.output, g.size, fun k hk => g.block k hk (by simp [Value.ownBlock])⟩
theorem step_append_nil {P : Program} (w : World) {ops : Array Oper} {o : Oper} {a : Act} {K : Act → World → Prop} {Q : Exit → Act → World → Prop} {E : Prop} (hgd : o.guard = none) (s x : Operand) (t : TypeId)
    (ho : o.op = .call { callee := .builtin .append, args := #[s, x], argTypes := #[t, t] })
    (e : TypeId) (i : TypeInfo) (z : Value) (size bytes : Nat) (ht : P.underlying t = some (.slice e)) (hi : P.info? e = some i) (hz : i.zero = some z)
    (hsize : i.size = size) (hby : i.bytes = bytes) (hzs : z.cells.size = size) (hsz : 0 < size)
    (hs : a.eval s = .slice none 0 0)
    (ad : Option Addr) (m c : Nat) (news : List Value) (hx : a.eval x = .slice ad m c) (hl : news.length = m * size) (hnews : Sl w ad m news) (h1 : ∀ u ∈ news, u.oneCell' = true)
    (h63 : m ≤ maxLen) (hbytes : m * bytes ≤ 140737488355328)
    (h : ∀ ad' c' w', Sl w' ad' m news → Own w.heap.size w'.heap.size ad' → Below w.heap.size w w' → K (a.put o.dst (.slice ad' m c')) w') :
    if Region.wanted o (yielded ops a.tmps) = true then Oper.wp P o a w K Q else E :=
  step_append_sl w hgd s x t ho w.heap.size e i z size bytes ht hi hz hsize hby hzs hsz (.slice none 0 0) 0 [] hs (World.ownsRow_nil _ _ _ _) ad m c news hx hl hnews h1 (by rw [Nat.zero_add]; exact h63) (by rw [Nat.zero_add]; exact hbytes) (Nat.le_refl _) fun v' w' hown hg => by
    obtain ⟨ad', c', rfl, hsl, how⟩ := row_reads hown
    rw [Nat.zero_add, List.nil_append] at hsl
    rw [Nat.zero_add]
    exact h ad' c' w' hsl how hg.nil
theorem cell_set_ne {w : World} {a b : Addr} {v u : Value} (h : w.cell? a = some u) (hn : a.block ≠ b.block) : (w.setCell b v).cell? a = some u := by
  rw [← h]
  exact World.cell?_of_block (w := w) (Below.heap_setCell _ _ _ _ hn)

set_option maxRecDepth 100000 in
set_option maxHeartbeats 8000000 in
theorem refnew_any (em : Int) (gs : List Gl) (ps : List Pr) (ag ap : Option Addr) (ca cb : Nat) (w : World) (hg : gs.length ≤ 9223372036854775807) (hp : ps.length ≤ 9223372036854775807) (sg : Sl w ag gs.length (gs.flatMap cg)) (sp : Sl w ap ps.length (ps.flatMap cp)) :
    Calls Try.prog 26 #[.agg #[.int .i64 em, .slice ag gs.length ca, .slice ap ps.length cb]] w fun e w' =>
      (verd em gs ps ≠ 0 → e = .returned (.tuple #[.pointer none, .int .i64 (verd em gs ps)])) ∧
      (verd em gs ps = 0 → ∃ a ag' ca' ap' cb', e = .returned (.tuple #[.pointer (some ⟨a, 0, none⟩), .int .i64 0]) ∧ RT w' a em gs ps ag' ca' ap' cb' ∧ w.heap.size ≤ a ∧ (∀ b off, ag' = some ⟨b, off, none⟩ → w.heap.size ≤ b) ∧ (∀ b off, ap' = some ⟨b, off, none⟩ → w.heap.size ≤ b)) ∧ Below w.heap.size w w' := by
  have BF := Blk.new w #[.int .i64 em, .slice ag gs.length ca, .slice ap ps.length cb] 25 rfl
  have B0 : Below w.heap.size w (w.alloc (.cells #[.int .i64 em, .slice ag gs.length ca, .slice ap ps.length cb] 25)) := (Below.refl _ w).alloc (Nat.le_refl _) _
  have HC := hid (check_any em gs ps ag ap ca cb _ hg hp (sg.below B0) (sp.below B0))
  have HV := hid (verd_ways em gs ps)
  have HSG : Hid (∀ X, Below w.heap.size w X → Sl X ag gs.length (gs.flatMap cg)) := hid fun X h => sg.below h
  have HSP : Hid (∀ X, Below w.heap.size w X → Sl X ap ps.length (ps.flatMap cp)) := hid fun X h => sp.below h
  obtain ⟨v, hv⟩ : ∃ v, verd em gs ps = v := ⟨_, rfl⟩
  rw [hv] at HC ⊢
  have HVV := hid hv
  obtain ⟨n, hne⟩ : ∃ n, gs.length = n := ⟨_, rfl⟩
  obtain ⟨m, hme⟩ : ∃ m, ps.length = m := ⟨_, rfl⟩
  have HN := hid hne
  have HM := hid hme
  rw [hne, hme] at HC BF B0 ⊢
  rw [hne] at HSG
  rw [hme] at HSP
  have HF := hid BF
  have HB := hid B0
  clear sg sp hg hp BF B0 hv hne hme
  by_cases h0 : v = 0
  · have HL : Hid (n ≤ 1024 ∧ m ≤ 4096) := hid (by
      have h := HV.out
      rw [HVV.out, HN.out, HM.out] at h
      rcases h with ⟨_, h⟩ | ⟨_, _, h⟩ | ⟨_, _, _, h⟩ | ⟨_, _, _, _, h⟩ | ⟨_, _, _, _, _, h⟩ | ⟨_, _, _, _, _, _, h⟩ | ⟨_, _, a, b, _, _, h⟩
      all_goals first | (exfalso; omega) | exact ⟨by omega, by omega⟩)
    subst h0
    obtain ⟨i45, hi45, z450, z451, z452⟩ := info_parts info45
    obtain ⟨i52, hi52, z520, z521, z522⟩ := info_parts info52
    go_enter Try.func26, Try.ntmps26
    go_wp2_with fail
    refine HC.out.mono ?_
    rintro e w2 ⟨rfl, hb⟩
    have HB2 := hid (HB.out.trans (hb.mono (by simp)))
    have HF2 := hid (HF.out.below hb)
    have k0 : w2.cell? ⟨w.heap.size, 0, none⟩ = some (.int .i64 em) := HF2.out.cell 0
    have HB3 : Hid (Below w.heap.size w (w2.alloc (.cells #[.int .i64 em, .slice none 0 0, .slice none 0 0] 105))) := hid (HB2.out.alloc HB2.out.size _)
    have HF3 := hid (HF2.out.alloc (.cells #[.int .i64 em, .slice none 0 0, .slice none 0 0] 105))
    have HT3 := hid (Blk.new w2 #[.int .i64 em, .slice none 0 0, .slice none 0 0] 105 rfl)
    have hlt2 : w.heap.size < w2.heap.size := HF2.out.lt
    clear hb HC
    go_wp2_with fail
    obtain ⟨W, hW⟩ : ∃ W, w2.alloc (.cells #[.int .i64 em, .slice none 0 0, .slice none 0 0] 105) = W := ⟨_, rfl⟩
    obtain ⟨T, hT⟩ : ∃ T, w2.heap.size = T := ⟨_, rfl⟩
    rw [hW] at HB3 HF3 HT3 ⊢
    rw [hT] at HT3 hlt2 ⊢
    clear hW k0 HB2 HF2
    have HLT := hid hlt2
    have HT := hid hT
    have HLG := hid (flat_len cg_len gs)
    have HLP := hid (flat_len cp_len ps)
    rw [HN.out] at HLG
    rw [HM.out] at HLP
    have HSL := hid (HSG.out _ HB3.out.drew)
    have ht1 : W.cell? ⟨T, 1, none⟩ = some (.slice none 0 0) := HT3.out.cell 1
    have hS0 : W.cell? ⟨w.heap.size, 1, none⟩ = some (.slice ag n ca) := HF3.out.cell 1
    clear hlt2 hT
    have hm1 : n ≤ maxLen := by have := HL.out; unfold maxLen; omega
    have hm2 : n * 32 ≤ 140737488355328 := by have := HL.out; omega
    have mf : Try.prog.follows .mixedOrders = true := by kernel_rfl
    go_region_law (refine step_append_nil _ rfl _ _ 22 rfl 33 i45 _ 4 32 Try.underlying22 hi45 z450 z451 z452 rfl (by decide) (by rfl) ag n ca (gs.flatMap cg) (by rfl) HLG.out HSL.out (cg_one gs) hm1 hm2 ?_; intro ad6 cap6 w6 hsl6 how6 hb6; have HB6 := hid (HB3.out.trans ((undrew hb6).mono HB3.out.size)); have HF6 := hid (HF3.out.below (undrew hb6)); have HT6 := hid (HT3.out.below (undrew hb6)); have HSL6 := hid hsl6; have HOW6 := hid how6; have hS6 : w6.cell? ⟨w.heap.size, 1, none⟩ = some (.slice ag n ca) := HF6.out.cell 1; have hne6 : (⟨w.heap.size, 1, none⟩ : Addr).block ≠ (⟨T, 1, none⟩ : Addr).block := Nat.ne_of_lt HLT.out; have ht6 := HT6.out.cell 1; have hf6 := HT6.out.froz 1; clear hsl6 how6 hb6)
    all_goals
      have ho7 : Only [T] w6 (w6.setCell ⟨T, 1, none⟩ (.slice ad6 n cap6)) := (Only.refl _ _).set (p := ⟨T, 1, none⟩) (.inl (by simp)) _
      have HT7 := hid (HT6.out.set 1 (.slice ad6 n cap6))
      have HF7 := hid (ho7.blk HF6.out (by have := HLT.out; simp; omega))
      have HB7 : Hid (Below w.heap.size w (w6.setCell ⟨T, 1, none⟩ (.slice ad6 n cap6))) := hid (HB6.out.setCell (p := ⟨T, 1, none⟩) (Nat.le_of_lt HLT.out) _)
      have HNG : Hid (∀ b off, ad6 = some ⟨b, off, none⟩ → w.heap.size ≤ b) := hid fun b off e => by have := (HOW6.out b off e).1; have h2 := HB3.out.size; simp at this; omega
      have HNT : Hid (∀ b off, ad6 = some ⟨b, off, none⟩ → b ≠ T) := hid fun b off e => by have := (HOW6.out b off e).1; have h2 := HT3.out.lt; simp at this; omega
      have HSL7 := hid (HSL6.out.keep ho7 (fun b off e => by have := (HOW6.out b off e).1; have h2 := HT3.out.lt; simp at this ⊢; omega))
      obtain ⟨W7, hW7⟩ : ∃ W7, w6.setCell ⟨T, 1, none⟩ (.slice ad6 n cap6) = W7 := ⟨_, rfl⟩
      rw [hW7] at HT7 HF7 HB7 HSL7 ⊢
      clear hW7 ho7 HT6 HF6 HB6 HSL6 HOW6 hS0 hS6 ht1 ht6 hf6 hne6 hm1 hm2 HSL
      have HSL := hid (HSP.out _ HB7.out.drew)
      have ht1 : W7.cell? ⟨T, 2, none⟩ = some (.slice none 0 0) := HT7.out.cell 2
      have hS0 : W7.cell? ⟨w.heap.size, 2, none⟩ = some (.slice ap m cb) := HF7.out.cell 2
      have hm1 : m ≤ maxLen := by have := HL.out; unfold maxLen; omega
      have hm2 : m * 40 ≤ 140737488355328 := by have := HL.out; omega
      go_wp2_with fail
    all_goals go_region_law (refine step_append_nil _ rfl _ _ 23 rfl 35 i52 _ 5 40 Try.underlying23 hi52 z520 z521 z522 rfl (by decide) (by rfl) ap m cb (ps.flatMap cp) (by rfl) HLP.out HSL.out (cp_one ps) hm1 hm2 ?_; intro ad8 cap8 w8 hsl6 how6 hb6; have HB8 := hid (HB7.out.trans ((undrew hb6).mono HB7.out.size)); have HF8 := hid (HF7.out.below (undrew hb6)); have HT8 := hid (HT7.out.below (undrew hb6)); have HSG8 := hid (HSL7.out.below (undrew hb6)); have HSL8 := hid hsl6; have HOW8 := hid how6; have hS6 : w8.cell? ⟨w.heap.size, 2, none⟩ = some (.slice ap m cb) := HF8.out.cell 2; have hne6 : (⟨w.heap.size, 2, none⟩ : Addr).block ≠ (⟨T, 2, none⟩ : Addr).block := Nat.ne_of_lt HLT.out; have ht6 := HT8.out.cell 2; have hf6 := HT8.out.froz 2; clear hsl6 how6 hb6)
    all_goals
      have HT9 := hid (HT8.out.set 2 (.slice ad8 m cap8))
      have ho9 : Only [T] w8 (w8.setCell ⟨T, 2, none⟩ (.slice ad8 m cap8)) := (Only.refl _ _).set (p := ⟨T, 2, none⟩) (.inl (by simp)) _
      have HB9 : Hid (Below w.heap.size w (w8.setCell ⟨T, 2, none⟩ (.slice ad8 m cap8))) := hid (HB8.out.setCell (p := ⟨T, 2, none⟩) (Nat.le_of_lt HLT.out) _)
      have HNP : Hid (∀ b off, ad8 = some ⟨b, off, none⟩ → w.heap.size ≤ b) := hid fun b off e => by have := (HOW8.out b off e).1; have h2 := HB7.out.size; simp at this; omega
      have HSL9 := hid (HSL8.out.keep ho9 (fun b off e => by have := (HOW8.out b off e).1; have h2 := HT7.out.lt; simp at this ⊢; omega))
      have HSG9 : Hid (Sl (w8.setCell ⟨T, 2, none⟩ (.slice ad8 m cap8)) ad6 n (gs.flatMap cg)) := hid (HSG8.out.keep ho9 (fun b off e => by have := HNT.out b off e; simpa using this))
      clear hS0 hS6 ht1 ht6 hf6 hne6
      go_wp2_with fail
      go_ret2
      refine ⟨fun h => absurd rfl h, fun _ => ⟨T, ad6, cap6, ad8, cap8, rfl, ⟨?_, ?_, ?_⟩, Nat.le_of_lt HLT.out, HNG.out, HNP.out⟩, HB9.out⟩
      · rw [HN.out, HM.out]; exact HT9.out
      · rw [HN.out]; exact HSG9.out
      · rw [HM.out]; exact HSL9.out
  · have h0b : (v == 0) = false := by simpa using h0
    go_enter Try.func26, Try.ntmps26
    go_wp2_with (go_at_call 53; refine HC.out.mono ?_; rintro e w2 ⟨rfl, hb⟩)
    have HB2 := hid (HB.out.trans (hb.mono (by simp)))
    clear hb
    go_wp2_with fail
    go_ret2
    exact ⟨fun _ => rfl, fun h => absurd h h0, HB2.out⟩
end Go.Proofs.Ytdinlaoimpoolaa
