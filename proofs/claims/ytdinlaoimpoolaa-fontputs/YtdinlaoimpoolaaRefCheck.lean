/- The reference: the first that is wrong with a font. -/
import Derived.Test.YtdinlaoimpoolaaRefPaired
namespace Go.Proofs.Ytdinlaoimpoolaa
open Go.RowKit

/-- the rune ahead of place k -/
def ahead (gs : List Gl) : Nat → Int
  | 0 => -1
  | k + 1 => ((gs[k]?).map fun g => g.1).getD 0
theorem ahead_at {gs : List Gl} {k : Nat} {g : Gl} (h : gs[k]? = some g) : ahead gs (k + 1) = g.1 := by simp [ahead, h]
theorem width_pos {r : Int} (h : widthI r ≠ 0) : -1 < r := by
  unfold widthI at h
  split at h
  · exact absurd rfl h
  · omega
/-- one glyph as the reference asks of it -/
theorem glyph_ways (gs : List Gl) (k : Nat) (g : Gl) : (widthI g.1 = 0 ∧ okG (ahead gs k) g = false) ∨ (widthI g.1 ≠ 0 ∧ k ≠ 0 ∧ g.1 ≤ ahead gs k ∧ okG (ahead gs k) g = false) ∨
    (widthI g.1 ≠ 0 ∧ (k = 0 ∨ ¬ g.1 ≤ ahead gs k) ∧ inU g.2.1 = false ∧ okG (ahead gs k) g = false) ∨ (widthI g.1 ≠ 0 ∧ (k = 0 ∨ ¬ g.1 ≤ ahead gs k) ∧ inU g.2.1 = true ∧ inU g.2.2.1 = false ∧ okG (ahead gs k) g = false) ∨
    (widthI g.1 ≠ 0 ∧ (k = 0 ∨ ¬ g.1 ≤ ahead gs k) ∧ inU g.2.1 = true ∧ inU g.2.2.1 = true ∧ inU g.2.2.2 = false ∧ okG (ahead gs k) g = false) ∨
    (widthI g.1 ≠ 0 ∧ (k = 0 ∨ ¬ g.1 ≤ ahead gs k) ∧ inU g.2.1 = true ∧ inU g.2.2.1 = true ∧ inU g.2.2.2 = true ∧ okG (ahead gs k) g = true) := by
  unfold okG units
  by_cases h1 : widthI g.1 = 0
  · simp [h1]
  · have hp := width_pos h1
    by_cases h2 : k = 0
    · subst h2
      have e : ahead gs 0 = -1 := rfl
      rw [e]
      cases inU g.2.1 <;> cases inU g.2.2.1 <;> cases inU g.2.2.2 <;> simp [h1] <;> omega
    · by_cases h3 : g.1 ≤ ahead gs k
      · have : ¬ ahead gs k < g.1 := by omega
        simp [h1, h2, h3, this]
      · have : ahead gs k < g.1 := by omega
        cases inU g.2.1 <;> cases inU g.2.2.1 <;> cases inU g.2.2.2 <;> simp [h1, h2, h3, this]

set_option maxRecDepth 100000 in
set_option maxHeartbeats 8000000 in
theorem check_any (em : Int) (gs : List Gl) (ps : List Pr) (ag ap : Option Addr) (ca cb : Nat) (w : World) (hg : gs.length ≤ 9223372036854775807) (hp : ps.length ≤ 9223372036854775807) (sg : Sl w ag gs.length (gs.flatMap cg)) (sp : Sl w ap ps.length (ps.flatMap cp)) :
    Calls Try.prog 53 #[.agg #[.int .i64 em, .slice ag gs.length ca, .slice ap ps.length cb]] w fun e w' => e = .returned (.int .i64 (verd em gs ps)) ∧ Below w.heap.size w w' := by
  have HS : Hid (Sl w ag gs.length (gs.flatMap cg) ∧ Sl w ap ps.length (ps.flatMap cp)) := ⟨sg, sp⟩
  have HL : Hid (gs.length ≤ 9223372036854775807 ∧ ps.length ≤ 9223372036854775807) := ⟨hg, hp⟩
  have HF := hid (Blk.new w #[.int .i64 em, .slice ag gs.length ca, .slice ap ps.length cb] 25 rfl)
  have HB : Hid (Below w.heap.size w (w.alloc (.cells #[.int .i64 em, .slice ag gs.length ca, .slice ap ps.length cb] 25))) := (Below.refl _ w).alloc (Nat.le_refl _) _
  obtain ⟨v, hv⟩ : ∃ v, verd em gs ps = v := ⟨_, rfl⟩
  have ways := verd_ways em gs ps
  rw [hv] at ways ⊢
  obtain ⟨n, hne⟩ : ∃ n, gs.length = n := ⟨_, rfl⟩
  obtain ⟨q, hqe⟩ : ∃ q, ps.length = q := ⟨_, rfl⟩
  have HN := hid hne
  have HQ := hid hqe
  rw [hne, hqe] at ways HF HB ⊢
  have hgi : (n : Int) ≤ 9223372036854775807 := by omega
  have hpi : (q : Int) ≤ 9223372036854775807 := by omega
  clear sg sp hv hne hqe hg hp
  have HW := hid ways
  rcases ways with ⟨h1, rfl⟩ | ⟨h1, h2, rfl⟩ | ⟨h1, h2, h3, rfl⟩ | ⟨h1, h2, h3, h4, rfl⟩ | h
  · go_enter Try.func53, Try.ntmps53
    go_wp2_with fail
    go_ret
    exact ⟨rfl, HB.out⟩
  · go_enter Try.func53, Try.ntmps53
    go_wp2_with fail
    go_ret
    exact ⟨rfl, HB.out⟩
  · have h3i : (1024 : Int) < n := by omega
    go_enter Try.func53, Try.ntmps53
    go_wp2_with fail
    go_ret
    exact ⟨rfl, HB.out⟩
  · have h3i : ¬ (1024 : Int) < n := by omega
    have h4i : (4096 : Int) < q := by omega
    go_enter Try.func53, Try.ntmps53
    go_wp2_with fail
    go_ret
    exact ⟨rfl, HB.out⟩
  · have HH : Hid ((glOK (-1) gs = false ∧ v = 51) ∨ (glOK (-1) gs = true ∧ prOK gs none ps = false ∧ v = 52) ∨ (glOK (-1) gs = true ∧ prOK gs none ps = true ∧ v = 0)) := by
      rcases h with ⟨_, _, _, _, a, b⟩ | ⟨_, _, _, _, a, b, c⟩ | ⟨_, _, _, _, a, b, c⟩
      · exact .inl ⟨a, b⟩
      · exact .inr (.inl ⟨a, b, c⟩)
      · exact .inr (.inr ⟨a, b, c⟩)
    obtain ⟨h1, h2, h3, h4⟩ : ¬ em < 1 ∧ ¬ 16384 < em ∧ ¬ 1024 < n ∧ ¬ 4096 < q := by
      rcases h with ⟨a, b, c, d, _⟩ | ⟨a, b, c, d, _⟩ | ⟨a, b, c, d, _⟩ <;> exact ⟨a, b, c, d⟩
    have h3i : ¬ (1024 : Int) < n := by omega
    have h4i : ¬ (4096 : Int) < q := by omega
    have mf : Try.prog.follows .mixedOrders = true := by kernel_rfl
    have HV51 : Hid (glOK (-1) gs = false → v = 51) := hid fun e => by
      rcases HH.out with ⟨_, h⟩ | ⟨h, _⟩ | ⟨h, _⟩
      · exact h
      all_goals (rw [e] at h; cases h)
    clear h HW
    go_enter Try.func53, Try.ntmps53
    go_wp2_with fail
    obtain ⟨W0, hW0⟩ : ∃ W0, w.alloc (.cells #[.int .i64 em, .slice ag n ca, .slice ap q cb] 25) = W0 := ⟨_, rfl⟩
    rw [hW0] at HF HB ⊢
    clear hW0
    go_loopw [3] (fun vi wr => ∃ k : Nat, vi = .int .i64 k ∧ k ≤ n ∧ glOK (-1) gs = glOK (ahead gs k) (gs.drop k) ∧ Below w.heap.size w wr ∧ Blk wr w.heap.size [.int .i64 em, .slice ag n ca, .slice ap q cb] 25) (fun vi _ => n - (RowKit.intOf vi).toNat)
    case atStart => exact ⟨0, rfl, by omega, rfl, HB.out, HF.out⟩
    case round =>
      obtain ⟨k, rfl, hk, hgl, hb, hf⟩ := hrel
      have HGL := hid hgl
      have HB1 := hid hb
      have HF1 := hid hf
      have k1 : wr.cell? ⟨w.heap.size, 1, none⟩ = some (.slice ag n ca) := hf.cell 1
      clear hgl hb hf HF HB
      by_cases hlt : k < n
      · obtain ⟨g, hgk⟩ := some_at (xs := gs) (i := k) (by rw [HN.out]; exact hlt)
        obtain ⟨b, off, rfl, hbl, hga⟩ := HS.out.1.glyph hgk
        obtain ⟨c0, c1, c2, c3⟩ := hga.below HB1.out hbl
        have HD : Hid (glOK (-1) gs = (okG (ahead gs k) g && glOK (ahead gs (k + 1)) (gs.drop (k + 1)))) := by rw [ahead_at hgk]; exact HGL.out.trans (glOK_drop hgk)
        have HPV : Hid (∀ W, Below w.heap.size w W → ∀ j, k = j + 1 → W.cell? ⟨b, off + j * 4, none⟩ = some (.int .i64 (ahead gs k))) := hid fun W h j e => by
          subst e
          obtain ⟨g', hg'⟩ := some_at (xs := gs) (i := j) (by rw [HN.out]; omega)
          obtain ⟨b', off', e', hbl', hga'⟩ := HS.out.1.glyph hg'
          cases e'
          rw [ahead_at hg']
          exact (hga'.below h hbl').c0
        have ways := glyph_ways gs k g
        have hli : (k : Int) < (n : Int) := by omega
        have hl0 : (0 : Int) ≤ (k : Int) := by omega
        obtain ⟨r, wi, he, de⟩ := g
        have hR := fun W => refwidth_any r W
        simp only at c0 c1 c2 c3 ways
        clear hgk hga
        generalize ahead gs k = pr at *
        have HWY := hid ways
        generalize hwd : widthI r = wd at *
        clear hwd ways
        have HOX : Hid (Below w.heap.size w (wr.alloc (.cells #[.int .i64 r, .int .i64 wi, .int .i64 he, .int .i64 de] 33))) := HB1.out.alloc HB1.out.size _
        have HFX := hid (HF1.out.alloc (.cells #[.int .i64 r, .int .i64 wi, .int .i64 he, .int .i64 de] 33))
        have HBX := hid (Blk.new wr #[.int .i64 r, .int .i64 wi, .int .i64 he, .int .i64 de] 33 rfl)
        go_wp2_with fail
        obtain ⟨WX, hWX⟩ : ∃ WX, wr.alloc (.cells #[.int .i64 r, .int .i64 wi, .int .i64 he, .int .i64 de] 33) = WX := ⟨_, rfl⟩
        rw [hWX] at HOX HFX HBX ⊢
        clear hWX k1 c0 c1 c2 c3
        have HOB : Hid (∀ d os, Below w.heap.size w (behind WX d os)) := hid fun d os => HOX.out.trans ((below_behind WX d os).mono HOX.out.size)
        have HFB : Hid (∀ d os, Blk (behind WX d os) w.heap.size [.int .i64 em, .slice (some ⟨b, off, none⟩) n ca, .slice ap q cb] 25) := hid fun d os => HFX.out.below (below_behind WX d os)
        have x0 : ∀ d os, (behind WX d os).cell? ⟨wr.heap.size, 0, none⟩ = some (.int .i64 r) := fun d os => (cell_behind HBX.out.lt d os).trans (HBX.out.cell 0)
        have x1 : ∀ d os, (behind WX d os).cell? ⟨wr.heap.size, 1, none⟩ = some (.int .i64 wi) := fun d os => (cell_behind HBX.out.lt d os).trans (HBX.out.cell 1)
        have x2 : ∀ d os, (behind WX d os).cell? ⟨wr.heap.size, 2, none⟩ = some (.int .i64 he) := fun d os => (cell_behind HBX.out.lt d os).trans (HBX.out.cell 2)
        have x3 : ∀ d os, (behind WX d os).cell? ⟨wr.heap.size, 3, none⟩ = some (.int .i64 de) := fun d os => (cell_behind HBX.out.lt d os).trans (HBX.out.cell 3)
        have y1 : ∀ d os, (behind WX d os).cell? ⟨w.heap.size, 1, none⟩ = some (.slice (some ⟨b, off, none⟩) n ca) := fun d os => (HFB.out d os).cell 1
        rcases HWY.out with ⟨h5, h6⟩ | h
        · -- no rune
          subst h5
          have HO := hid h6
          clear h6 HWY
          refine wp_region_behind (by assumption) (by kernel_rfl) ?_
          repeat (go_big_quiet_step ((first | (go_at_call 61; refine Calls.behind_of ((hR _).mono fun _ _ h => ⟨h.1, by rw [h.2]; exact Below.refl _ _⟩)) | (go_at_call 67; refine Calls.behind_of ((within_any _ _).mono fun _ _ h => ⟨h.1, by rw [h.2]; exact Below.refl _ _⟩)))))
          refine wpQuiet_nil ?_
          intro _ hw'
          obtain ⟨⟨dq, osq⟩, hw''⟩ := hw'
          subst hw''
          clear x0 x1 x2 x3 y1
          go_wp2_with fail
          go_ret
          have hve := HV51.out (by rw [HD.out, HO.out]; rfl)
          subst hve
          exact ⟨rfl, HOB.out dq osq⟩
        · by_cases hk0 : k = 0
          · subst hk0
            rcases h with ⟨h5, hc, _⟩ | ⟨h5, _, a1, h6⟩ | ⟨h5, _, a1, a2, h6⟩ | ⟨h5, _, a1, a2, a3, h6⟩ | ⟨h5, _, a1, a2, a3, h6⟩
            · exact absurd rfl hc
            · have h5b : (wd == 0) = false := by simpa using h5
              have HO := hid h6
              clear h6 HWY
              refine wp_region_behind (by assumption) (by kernel_rfl) ?_
              repeat (go_big_quiet_step ((first | (go_at_call 61; refine Calls.behind_of ((hR _).mono fun _ _ h => ⟨h.1, by rw [h.2]; exact Below.refl _ _⟩)) | (go_at_call 67; refine Calls.behind_of ((within_any _ _).mono fun _ _ h => ⟨h.1, by rw [h.2]; exact Below.refl _ _⟩)))))
              refine wpQuiet_nil ?_
              intro _ hw'
              obtain ⟨⟨dq, osq⟩, hw''⟩ := hw'
              subst hw''
              clear x0 x1 x2 x3 y1
              go_wp2_with fail
              go_ret
              have hve := HV51.out (by rw [HD.out, HO.out]; rfl)
              subst hve
              exact ⟨rfl, HOB.out dq osq⟩
            · have h5b : (wd == 0) = false := by simpa using h5
              have HO := hid h6
              clear h6 HWY
              refine wp_region_behind (by assumption) (by kernel_rfl) ?_
              repeat (go_big_quiet_step ((first | (go_at_call 61; refine Calls.behind_of ((hR _).mono fun _ _ h => ⟨h.1, by rw [h.2]; exact Below.refl _ _⟩)) | (go_at_call 67; refine Calls.behind_of ((within_any _ _).mono fun _ _ h => ⟨h.1, by rw [h.2]; exact Below.refl _ _⟩)))))
              refine wpQuiet_nil ?_
              intro _ hw'
              obtain ⟨⟨dq, osq⟩, hw''⟩ := hw'
              subst hw''
              clear x0 x1 x2 x3 y1
              go_wp2_with fail
              go_ret
              have hve := HV51.out (by rw [HD.out, HO.out]; rfl)
              subst hve
              exact ⟨rfl, HOB.out dq osq⟩
            · have h5b : (wd == 0) = false := by simpa using h5
              have HO := hid h6
              clear h6 HWY
              refine wp_region_behind (by assumption) (by kernel_rfl) ?_
              repeat (go_big_quiet_step ((first | (go_at_call 61; refine Calls.behind_of ((hR _).mono fun _ _ h => ⟨h.1, by rw [h.2]; exact Below.refl _ _⟩)) | (go_at_call 67; refine Calls.behind_of ((within_any _ _).mono fun _ _ h => ⟨h.1, by rw [h.2]; exact Below.refl _ _⟩)))))
              refine wpQuiet_nil ?_
              intro _ hw'
              obtain ⟨⟨dq, osq⟩, hw''⟩ := hw'
              subst hw''
              clear x0 x1 x2 x3 y1
              go_wp2_with fail
              go_ret
              have hve := HV51.out (by rw [HD.out, HO.out]; rfl)
              subst hve
              exact ⟨rfl, HOB.out dq osq⟩
            · have h5b : (wd == 0) = false := by simpa using h5
              have HO := hid h6
              clear h6 HWY
              refine wp_region_behind (by assumption) (by kernel_rfl) ?_
              repeat (go_big_quiet_step ((first | (go_at_call 61; refine Calls.behind_of ((hR _).mono fun _ _ h => ⟨h.1, by rw [h.2]; exact Below.refl _ _⟩)) | (go_at_call 67; refine Calls.behind_of ((within_any _ _).mono fun _ _ h => ⟨h.1, by rw [h.2]; exact Below.refl _ _⟩)))))
              refine wpQuiet_nil ?_
              intro _ hw'
              obtain ⟨⟨dq, osq⟩, hw''⟩ := hw'
              subst hw''
              clear x0 x1 x2 x3 y1
              go_wp2_with fail
              refine ⟨⟨0 + 1, by go_num, by omega, by rw [HD.out, HO.out]; rfl, HOB.out _ _, HFB.out _ _⟩, ?_⟩
              simp [RowKit.intOf]; omega
          · obtain ⟨j, rfl⟩ : ∃ j, k = j + 1 := ⟨k - 1, by omega⟩
            have yp : ∀ d os, (behind WX d os).cell? ⟨b, off + j * 4, none⟩ = some (.int .i64 pr) := fun d os => HPV.out _ (HOB.out d os) j rfl
            have hj1 : ((j + 1 : Nat) : Int) - 1 = (j : Int) := by omega
            have hj2 : (j : Int) < (n : Int) := by omega
            have hj3 : (0 : Int) ≤ (j : Int) := by omega
            have hj4 : 0 < j + 1 := by omega
            have hj5 : (0 : Int) < ((j + 1 : Nat) : Int) := by omega
            rcases h with ⟨h5, _, h7, h6⟩ | ⟨h5, h7, a1, h6⟩ | ⟨h5, h7, a1, a2, h6⟩ | ⟨h5, h7, a1, a2, a3, h6⟩ | ⟨h5, h7, a1, a2, a3, h6⟩
            · have h8 : decide (r ≤ pr) = true := decide_eq_true h7
              have h5b : (wd == 0) = false := by simpa using h5
              have HO := hid h6
              clear h6 HWY
              refine wp_region_behind (by assumption) (by kernel_rfl) ?_
              repeat (go_big_quiet_step ((first | (go_at_call 61; refine Calls.behind_of ((hR _).mono fun _ _ h => ⟨h.1, by rw [h.2]; exact Below.refl _ _⟩)) | (go_at_call 67; refine Calls.behind_of ((within_any _ _).mono fun _ _ h => ⟨h.1, by rw [h.2]; exact Below.refl _ _⟩)))))
              refine wpQuiet_nil ?_
              intro _ hw'
              obtain ⟨⟨dq, osq⟩, hw''⟩ := hw'
              subst hw''
              clear x0 x1 x2 x3 y1 yp
              go_wp2_with fail
              go_ret
              have hve := HV51.out (by rw [HD.out, HO.out]; rfl)
              subst hve
              exact ⟨rfl, HOB.out dq osq⟩
            · have h9 : ¬ r ≤ pr := by rcases h7 with h7 | h7 <;> omega
              have h8 : decide (r ≤ pr) = false := decide_eq_false h9
              have h5b : (wd == 0) = false := by simpa using h5
              have HO := hid h6
              clear h6 HWY
              refine wp_region_behind (by assumption) (by kernel_rfl) ?_
              repeat (go_big_quiet_step ((first | (go_at_call 61; refine Calls.behind_of ((hR _).mono fun _ _ h => ⟨h.1, by rw [h.2]; exact Below.refl _ _⟩)) | (go_at_call 67; refine Calls.behind_of ((within_any _ _).mono fun _ _ h => ⟨h.1, by rw [h.2]; exact Below.refl _ _⟩)))))
              refine wpQuiet_nil ?_
              intro _ hw'
              obtain ⟨⟨dq, osq⟩, hw''⟩ := hw'
              subst hw''
              clear x0 x1 x2 x3 y1 yp
              go_wp2_with fail
              go_ret
              have hve := HV51.out (by rw [HD.out, HO.out]; rfl)
              subst hve
              exact ⟨rfl, HOB.out dq osq⟩
            · have h9 : ¬ r ≤ pr := by rcases h7 with h7 | h7 <;> omega
              have h8 : decide (r ≤ pr) = false := decide_eq_false h9
              have h5b : (wd == 0) = false := by simpa using h5
              have HO := hid h6
              clear h6 HWY
              refine wp_region_behind (by assumption) (by kernel_rfl) ?_
              repeat (go_big_quiet_step ((first | (go_at_call 61; refine Calls.behind_of ((hR _).mono fun _ _ h => ⟨h.1, by rw [h.2]; exact Below.refl _ _⟩)) | (go_at_call 67; refine Calls.behind_of ((within_any _ _).mono fun _ _ h => ⟨h.1, by rw [h.2]; exact Below.refl _ _⟩)))))
              refine wpQuiet_nil ?_
              intro _ hw'
              obtain ⟨⟨dq, osq⟩, hw''⟩ := hw'
              subst hw''
              clear x0 x1 x2 x3 y1 yp
              go_wp2_with fail
              go_ret
              have hve := HV51.out (by rw [HD.out, HO.out]; rfl)
              subst hve
              exact ⟨rfl, HOB.out dq osq⟩
            · have h9 : ¬ r ≤ pr := by rcases h7 with h7 | h7 <;> omega
              have h8 : decide (r ≤ pr) = false := decide_eq_false h9
              have h5b : (wd == 0) = false := by simpa using h5
              have HO := hid h6
              clear h6 HWY
              refine wp_region_behind (by assumption) (by kernel_rfl) ?_
              repeat (go_big_quiet_step ((first | (go_at_call 61; refine Calls.behind_of ((hR _).mono fun _ _ h => ⟨h.1, by rw [h.2]; exact Below.refl _ _⟩)) | (go_at_call 67; refine Calls.behind_of ((within_any _ _).mono fun _ _ h => ⟨h.1, by rw [h.2]; exact Below.refl _ _⟩)))))
              refine wpQuiet_nil ?_
              intro _ hw'
              obtain ⟨⟨dq, osq⟩, hw''⟩ := hw'
              subst hw''
              clear x0 x1 x2 x3 y1 yp
              go_wp2_with fail
              go_ret
              have hve := HV51.out (by rw [HD.out, HO.out]; rfl)
              subst hve
              exact ⟨rfl, HOB.out dq osq⟩
            · have h9 : ¬ r ≤ pr := by rcases h7 with h7 | h7 <;> omega
              have h8 : decide (r ≤ pr) = false := decide_eq_false h9
              have h5b : (wd == 0) = false := by simpa using h5
              have HO := hid h6
              clear h6 HWY
              refine wp_region_behind (by assumption) (by kernel_rfl) ?_
              repeat (go_big_quiet_step ((first | (go_at_call 61; refine Calls.behind_of ((hR _).mono fun _ _ h => ⟨h.1, by rw [h.2]; exact Below.refl _ _⟩)) | (go_at_call 67; refine Calls.behind_of ((within_any _ _).mono fun _ _ h => ⟨h.1, by rw [h.2]; exact Below.refl _ _⟩)))))
              refine wpQuiet_nil ?_
              intro _ hw'
              obtain ⟨⟨dq, osq⟩, hw''⟩ := hw'
              subst hw''
              clear x0 x1 x2 x3 y1 yp
              go_wp2_with fail
              refine ⟨⟨j + 1 + 1, by go_num, by omega, by rw [HD.out, HO.out]; rfl, HOB.out _ _, HFB.out _ _⟩, ?_⟩
              simp [RowKit.intOf]; omega
      · have hkn : ¬ (k : Int) < (n : Int) := by omega
        have hgt : glOK (-1) gs = true := by rw [HGL.out, List.drop_eq_nil_of_le (by rw [HN.out]; omega)]; rfl
        have HG1 := hid hgt
        have HV : Hid ((prOK gs none ps = false → v = 52) ∧ (prOK gs none ps = true → v = 0)) := by
          rcases HH.out with ⟨h, _⟩ | ⟨_, h, h'⟩ | ⟨_, h, h'⟩
          · rw [hgt] at h; cases h
          · exact ⟨fun _ => h', fun e => absurd (e.symm.trans h) (by decide)⟩
          · exact ⟨fun e => absurd (e.symm.trans h) (by decide), fun _ => h'⟩
        clear hgt
        go_wp2_with fail
        clear HGL k1 HV51 HH hkn
        go_loopw [5] (fun vi wr => ∃ k : Nat, vi = .int .i64 k ∧ k ≤ q ∧ prOK gs none ps = prOK gs (prev ps k) (ps.drop k) ∧ Below w.heap.size w wr ∧ Blk wr w.heap.size [.int .i64 em, .slice ag n ca, .slice ap q cb] 25) (fun vi _ => q - (RowKit.intOf vi).toNat)
        case atStart => exact ⟨0, rfl, by omega, rfl, HB1.out, HF1.out⟩
        case round =>
          obtain ⟨k2, rfl, hk2, hpl, hb, hf⟩ := hrel
          have HPL := hid hpl
          have HB2 := hid hb
          have HF2 := hid hf
          have k2c : wr.cell? ⟨w.heap.size, 2, none⟩ = some (.slice ap q cb) := hf.cell 2
          clear hpl hb hf HF1 HB1
          by_cases hlt2 : k2 < q
          · obtain ⟨p, hpk⟩ := some_at (xs := ps) (i := k2) (by rw [HQ.out]; exact hlt2)
            obtain ⟨b, off, rfl, hbl, hga⟩ := HS.out.2.pair hpk
            have HU := hid (units_of HG1.out)
            have HX : Hid (∀ d os, Below w.heap.size w (behind wr d os)) := hid fun d os => HB2.out.trans ((below_behind wr d os).mono HB2.out.size)
            have HFX : Hid (∀ d os, Blk (behind wr d os) w.heap.size [.int .i64 em, .slice ag n ca, .slice (some ⟨b, off, none⟩) q cb] 25) := hid fun d os => HF2.out.below (below_behind wr d os)
            have y0 : ∀ d os, (behind wr d os).cell? ⟨w.heap.size, 0, none⟩ = some (.int .i64 em) := fun d os => (HFX.out d os).cell 0
            have y1 : ∀ d os, (behind wr d os).cell? ⟨w.heap.size, 1, none⟩ = some (.slice ag n ca) := fun d os => (HFX.out d os).cell 1
            have y2 : ∀ d os, (behind wr d os).cell? ⟨w.heap.size, 2, none⟩ = some (.slice (some ⟨b, off, none⟩) q cb) := fun d os => (HFX.out d os).cell 2
            have x0 := fun d os => (hga.below (HX.out d os) hbl).c0
            have x1 := fun d os => (hga.below (HX.out d os) hbl).c1
            have x2 := fun d os => (hga.below (HX.out d os) hbl).c2
            have x3 := fun d os => (hga.below (HX.out d os) hbl).c3
            have x4 := fun d os => (hga.below (HX.out d os) hbl).c4
            have HD : Hid (prOK gs none ps = (okP gs (prev ps k2) p && prOK gs (prev ps (k2 + 1)) (ps.drop (k2 + 1)))) := hid (HPL.out.trans (prOK_drop hpk))
            obtain ⟨po, hpo⟩ : ∃ po, pairOK gs p = po := ⟨_, rfl⟩
            have HPO := hid hpo
            have hP : ∀ d os, Calls Try.prog 68 #[.agg #[.int .i64 em, .slice ag n ca, .slice (some ⟨b, off, none⟩) q cb], .agg (cp p).toArray] (behind wr d os) fun e w' => e = .returned (.bool po) ∧ Below (behind wr d os).heap.size (behind wr d os) w' := fun d os => by
              have := paired_any em gs ag (some ⟨b, off, none⟩) ca q cb p (behind wr d os) HU.out (by rw [HN.out]; omega) (HS.out.1.below (HX.out d os))
              rw [HN.out, hpo] at this
              exact this
            have HB41 : Hid (∀ p' d os, Calls Try.prog 69 #[.agg (cp p).toArray, .agg (cp p').toArray] (behind wr d os) fun e w' => e = .returned (.bool (decide (ordI p' p < 0))) ∧ Below (behind wr d os).heap.size (behind wr d os) w') := hid fun p' d os => by
              have := behind_any p p' (behind wr d os)
              rw [bhd_ord] at this
              exact this
            have HPV : Hid (∀ j, k2 = j + 1 → ∃ p', prev ps k2 = some p' ∧ ∀ W, Below w.heap.size w W → PAt W b (off + j * 5) p') := hid fun j e => by
              subst e
              obtain ⟨p', hp'⟩ := some_at (xs := ps) (i := j) (by rw [HQ.out]; omega)
              obtain ⟨b', off', e', hbl', hga'⟩ := HS.out.2.pair hp'
              cases e'
              exact ⟨p', hp', fun W h => hga'.below h hbl'⟩
            have hli : (k2 : Int) < (q : Int) := by omega
            have hl0 : (0 : Int) ≤ (k2 : Int) := by omega
            clear hpk hga hpo
            have HNX : Hid (okP gs (prev ps k2) p = true → prOK gs none ps = prOK gs (prev ps (k2 + 1)) (ps.drop (k2 + 1))) := hid fun h => by rw [HD.out, h]; rfl
            have HNO : Hid (okP gs (prev ps k2) p = false → v = 52) := hid fun h => HV.out.1 (by rw [HD.out, h]; rfl)
            clear HD
            cases po with
            | false =>
              have HO := hid (HNO.out (okP_false HPO.out))
              obtain ⟨p0, p1, p2, p3, p4⟩ := p
              simp only [cp] at hP x0 x1 x2 x3 x4
              go_wp2_with fail
              refine wp_region_behind (by assumption) (by kernel_rfl) ?_
              repeat (go_big_quiet_step ((go_at_call 68; refine Calls.behind_of (hP _ _))))
              refine wpQuiet_nil ?_
              intro _ hw'
              obtain ⟨⟨dq, osq⟩, hw''⟩ := hw'
              subst hw''
              clear x0 x1 x2 x3 x4 y0 y1 y2
              go_wp2_with fail
              go_ret
              have hve := HO.out
              subst hve
              exact ⟨rfl, HX.out dq osq⟩
            | true =>
              by_cases hk0 : k2 = 0
              · have HO := hid (HNX.out (okP_none HPO.out (by rw [hk0]; rfl)))
                have hkz : ¬ (0 : Int) < (k2 : Int) := by omega
                have hkz2 : decide ((0 : Int) < (k2 : Int)) = false := decide_eq_false hkz
                have hkz3 : ¬ 0 < k2 := by omega
                have HK0 := hid hk0
                clear hk0
                obtain ⟨p0, p1, p2, p3, p4⟩ := p
                simp only [cp] at hP x0 x1 x2 x3 x4
                go_wp2_with fail
                refine wp_region_behind (by assumption) (by kernel_rfl) ?_
                repeat (go_big_quiet_step ((go_at_call 68; refine Calls.behind_of (hP _ _))))
                refine wpQuiet_nil ?_
                intro _ hw'
                obtain ⟨⟨dq, osq⟩, hw''⟩ := hw'
                subst hw''
                clear x0 x1 x2 x3 x4 y0 y1 y2
                go_wp2_with fail
                refine ⟨⟨k2 + 1, by go_num, by omega, HO.out, HX.out _ _, HFX.out _ _⟩, ?_⟩
                simp [RowKit.intOf]; omega
              · obtain ⟨j, rfl⟩ : ∃ j, k2 = j + 1 := ⟨k2 - 1, by omega⟩
                obtain ⟨p', hpr, hpa⟩ := HPV.out j rfl
                have z0 := fun d os => (hpa _ (HX.out d os)).c0
                have z1 := fun d os => (hpa _ (HX.out d os)).c1
                have z2 := fun d os => (hpa _ (HX.out d os)).c2
                have z3 := fun d os => (hpa _ (HX.out d os)).c3
                have z4 := fun d os => (hpa _ (HX.out d os)).c4
                have hj1 : ((j + 1 : Nat) : Int) - 1 = (j : Int) := by omega
                have hj2 : (j : Int) < (q : Int) := by omega
                have hj3 : (0 : Int) ≤ (j : Int) := by omega
                have hj4 : 0 < j + 1 := by omega
                have hj5 : (0 : Int) < ((j + 1 : Nat) : Int) := by omega
                have hB := HB41.out p'
                obtain ⟨bo, hbo⟩ : ∃ bo, decide (ordI p' p < 0) = bo := ⟨_, rfl⟩
                rw [hbo] at hB
                have HO : Hid (okP gs (prev ps (j + 1)) p = bo) := hid (okP_some HPO.out hpr hbo)
                clear hbo hpr hpa
                obtain ⟨p0, p1, p2, p3, p4⟩ := p
                obtain ⟨r0, r1, r2, r3, r4⟩ := p'
                simp only [cp] at hP hB x0 x1 x2 x3 x4 z0 z1 z2 z3 z4
                cases bo with
                | false =>
                  have HO1 := hid (HNO.out HO.out)
                  go_wp2_with fail
                  refine wp_region_behind (by assumption) (by kernel_rfl) ?_
                  repeat (go_big_quiet_step ((first | (go_at_call 68; refine Calls.behind_of (hP _ _)) | (go_at_call 69; refine Calls.behind_of (hB _ _)))))
                  refine wpQuiet_nil ?_
                  intro _ hw'
                  obtain ⟨⟨dq, osq⟩, hw''⟩ := hw'
                  subst hw''
                  clear x0 x1 x2 x3 x4 y0 y1 y2 z0 z1 z2 z3 z4
                  go_wp2_with fail
                  go_ret
                  have hve := HO1.out
                  subst hve
                  exact ⟨rfl, HX.out dq osq⟩
                | true =>
                  have HO1 := hid (HNX.out HO.out)
                  go_wp2_with fail
                  refine wp_region_behind (by assumption) (by kernel_rfl) ?_
                  repeat (go_big_quiet_step ((first | (go_at_call 68; refine Calls.behind_of (hP _ _)) | (go_at_call 69; refine Calls.behind_of (hB _ _)))))
                  refine wpQuiet_nil ?_
                  intro _ hw'
                  obtain ⟨⟨dq, osq⟩, hw''⟩ := hw'
                  subst hw''
                  clear x0 x1 x2 x3 x4 y0 y1 y2 z0 z1 z2 z3 z4
                  go_wp2_with fail
                  refine ⟨⟨j + 1 + 1, by go_num, by omega, HO1.out, HX.out _ _, HFX.out _ _⟩, ?_⟩
                  simp [RowKit.intOf]; omega
          · have hkn : ¬ (k2 : Int) < (q : Int) := by omega
            have hpt : prOK gs none ps = true := by rw [HPL.out, List.drop_eq_nil_of_le (by rw [HQ.out]; omega)]; rfl
            have hv0 := HV.out.2 hpt
            have HV0 := hid hv0
            clear hpt hv0
            go_wp2_with fail
            go_ret
            have hve := HV0.out
            subst hve
            exact ⟨rfl, HB2.out⟩
end Go.Proofs.Ytdinlaoimpoolaa
