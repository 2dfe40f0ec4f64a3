/- New: the first that is wrong, or a table in memory of its own. -/
import Derived.Test.YtdinlaoimpoolaaClone
namespace Go.Proofs.Ytdinlaoimpoolaa
open Go.RowKit

/-- a table of this font lies at a, all its blocks from B on, below C -/
structure Tab (B C : Nat) (W : World) (a : Nat) (em : Int) (gs : List Gl) (ps : List Pr) : Prop where
  ok : glOK (-1) gs = true
  pok : prOK gs none ps = true
  rp : RiseP ps
  gl : gs.length ≤ 1024
  pl : ps.length ≤ 4096
  lies : ∃ ag ca m, Blk W a [.int .i64 em, .slice ag gs.length ca, .map (some m)] 97 ∧ Sl W ag gs.length (gs.flatMap cg) ∧ MapAt W m ps ∧ (B ≤ a ∧ a < C) ∧ (B ≤ m ∧ m < C) ∧ Own B C ag
theorem Tab.keep {B C a : Nat} {W W' : World} {em : Int} {gs : List Gl} {ps : List Pr} {L : List Nat} (h : Tab B C W a em gs ps) (k : Only L W W') (hL : ∀ i ∈ L, i < B ∨ C ≤ i) : Tab B C W' a em gs ps := by
  obtain ⟨ag, ca, m, h1, h2, h3, h4, h5, h6⟩ := h.lies
  have out : ∀ i, B ≤ i → i < C → i ∉ L := fun i hb hc hi => by have := hL i hi; omega
  exact ⟨h.ok, h.pok, h.rp, h.gl, h.pl, ag, ca, m, k.blk h1 (out a h4.1 h4.2), h2.keep k (fun b off e => out b (h6 b off e).1 (h6 b off e).2), h3.only k (out m h5.1 h5.2), h4, h5, h6⟩
theorem Tab.below {B C a : Nat} {W W' : World} {em : Int} {gs : List Gl} {ps : List Pr} (h : Tab B C W a em gs ps) (k : Below W.heap.size W W') : Tab B C W' a em gs ps := h.keep (Only.ofBelow k) (by simp)
theorem Tab.tg {B C a : Nat} {W : World} {em : Int} {gs : List Gl} {ps : List Pr} (h : Tab B C W a em gs ps) : TG W a gs := by
  obtain ⟨ag, ca, m, h1, h2, _⟩ := h.lies
  exact ⟨(rise_of h.ok).1, by have := h.gl; omega, em, ag, ca, _, h1, h2⟩
/-- what is wrong with a font: 0: nothing -/
def verd (em : Int) (gs : List Gl) (ps : List Pr) : Int :=
  if em < 1 ∨ 16384 < em then 1 else if 1024 < gs.length ∨ 4096 < ps.length then 50 else if glOK (-1) gs = false then 51 else if prOK gs none ps = false then 52 else 0
theorem verd_ways (em : Int) (gs : List Gl) (ps : List Pr) : (em < 1 ∧ verd em gs ps = 1) ∨ (¬ em < 1 ∧ 16384 < em ∧ verd em gs ps = 1) ∨ (¬ em < 1 ∧ ¬ 16384 < em ∧ 1024 < gs.length ∧ verd em gs ps = 50) ∨ (¬ em < 1 ∧ ¬ 16384 < em ∧ ¬ 1024 < gs.length ∧ 4096 < ps.length ∧ verd em gs ps = 50) ∨
    (¬ em < 1 ∧ ¬ 16384 < em ∧ ¬ 1024 < gs.length ∧ ¬ 4096 < ps.length ∧ glOK (-1) gs = false ∧ verd em gs ps = 51) ∨ (¬ em < 1 ∧ ¬ 16384 < em ∧ ¬ 1024 < gs.length ∧ ¬ 4096 < ps.length ∧ glOK (-1) gs = true ∧ prOK gs none ps = false ∧ verd em gs ps = 52) ∨
    (¬ em < 1 ∧ ¬ 16384 < em ∧ ¬ 1024 < gs.length ∧ ¬ 4096 < ps.length ∧ glOK (-1) gs = true ∧ prOK gs none ps = true ∧ verd em gs ps = 0) := by
  unfold verd
  by_cases h1 : em < 1
  · simp [h1]
  · by_cases h2 : 16384 < em
    · simp [h1, h2]
    · by_cases h3 : 1024 < gs.length
      · simp [h1, h2, h3]
      · by_cases h4 : 4096 < ps.length
        · simp [h1, h2, h3, h4]
        · cases h5 : glOK (-1) gs <;> cases h6 : prOK gs none ps <;> simp [h1, h2, h3, h4]
/-- what New answers -/
def Made (w w' : World) (em : Int) (gs : List Gl) (ps : List Pr) (e : Ending) : Prop :=
  (verd em gs ps ≠ 0 → e = .returned (.tuple #[.pointer none, .int .i64 (verd em gs ps)])) ∧ (verd em gs ps = 0 → ∃ a, e = .returned (.tuple #[.pointer (some ⟨a, 0, none⟩), .int .i64 0]) ∧ Tab w.heap.size w'.heap.size w' a em gs ps) ∧ Below w.heap.size w w'
theorem Made.wrong {w w' : World} {em : Int} {gs : List Gl} {ps : List Pr} {e : Ending} {k : Int} (hv : verd em gs ps = k) (hk : k ≠ 0) (he : e = .returned (.tuple #[.pointer none, .int .i64 k])) (hb : Below w.heap.size w w') : Made w w' em gs ps e :=
  ⟨fun _ => by rw [hv]; exact he, fun h => by rw [hv] at h; exact absurd h hk, hb⟩

set_option maxRecDepth 100000 in
set_option maxHeartbeats 8000000 in
theorem new_any (em : Int) (gs : List Gl) (ps : List Pr) (ag ap : Option Addr) (ca cb : Nat) (w : World) (hg : gs.length ≤ 9223372036854775807) (hp : ps.length ≤ 9223372036854775807) (sg : Sl w ag gs.length (gs.flatMap cg)) (sp : Sl w ap ps.length (ps.flatMap cp)) :
    Calls Try.prog 20 #[.agg #[.int .i64 em, .slice ag gs.length ca, .slice ap ps.length cb]] w fun e w' => Made w w' em gs ps e := by
  have B0 : Below w.heap.size w (w.alloc (.cells #[.int .i64 em, .slice ag gs.length ca, .slice ap ps.length cb] 25)) := (Below.refl _ w).alloc (Nat.le_refl _) _
  rcases verd_ways em gs ps with ⟨h1, hv⟩ | ⟨h1, h2, hv⟩ | ⟨h1, h2, h3, hv⟩ | ⟨h1, h2, h3, h4, hv⟩ | ⟨h1, h2, h3, h4, h5, hv⟩ | ⟨h1, h2, h3, h4, h5, h6, hv⟩ | ⟨h1, h2, h3, h4, h5, h6, hv⟩
  · have HV : Hid _ := hv
    have HB : Hid _ := B0
    clear hv B0 sg sp
    go_enter Try.func20, Try.ntmps20
    go_wp2_with fail
    go_ret2
    exact Made.wrong HV.out (by decide) rfl HB.out
  · have HV : Hid _ := hv
    have HB : Hid _ := B0
    clear hv B0 sg sp
    go_enter Try.func20, Try.ntmps20
    go_wp2_with fail
    go_ret2
    exact Made.wrong HV.out (by decide) rfl HB.out
  · have HV : Hid _ := hv
    have HB : Hid _ := B0
    clear hv B0 sg sp
    generalize gs.length = n at *
    generalize ps.length = q at *
    go_enter Try.func20, Try.ntmps20
    go_wp2_with fail
    go_ret2
    exact Made.wrong HV.out (by decide) rfl HB.out
  · have HV : Hid _ := hv
    have HB : Hid _ := B0
    clear hv B0 sg sp
    generalize gs.length = n at *
    generalize ps.length = q at *
    go_enter Try.func20, Try.ntmps20
    go_wp2_with fail
    go_ret2
    exact Made.wrong HV.out (by decide) rfl HB.out
  · have HV : Hid _ := hv
    have HB : Hid _ := B0
    have HA : Hid (∀ W, Below w.heap.size w W → Calls Try.prog 48 #[.slice ag gs.length ca] W fun e w' => e = .returned (.bool false) ∧ Below W.heap.size W w') := fun W h => by
      have := areGlyphs_any gs ag ca W hg (sg.below h)
      rwa [h5] at this
    clear hv B0 sg sp h5
    generalize gs.length = n at *
    generalize ps.length = q at *
    go_enter Try.func20, Try.ntmps20
    go_wp2_with (go_at_call 48; refine (HA.out _ HB.out).mono ?_; rintro e w1 ⟨rfl, hb1⟩)
    go_ret2
    exact Made.wrong HV.out (by decide) rfl (HB.out.trans (hb1.mono (by simp)))
  · have HV : Hid _ := hv
    have HB : Hid _ := B0
    have hg1 : gs.length ≤ 1024 := by omega
    have hp1 : ps.length ≤ 4096 := by omega
    have HU : Hid (∀ g ∈ gs, units g = true) := units_of h5
    have HR : Hid (Rise gs) := (rise_of h5).1
    have HOK : Hid (glOK (-1) gs = true) := h5
    have HA : Hid (∀ W, Below w.heap.size w W → Calls Try.prog 48 #[.slice ag gs.length ca] W fun e w' => e = .returned (.bool true) ∧ Below W.heap.size W w') := fun W h => by
      have := areGlyphs_any gs ag ca W hg (sg.below h)
      rwa [h5] at this
    have HC : Hid (∀ W, Below w.heap.size w W → Calls Try.prog 49 #[.slice ag gs.length ca] W fun e w' => ∃ ad' cap', e = .returned (.slice ad' gs.length cap') ∧ Sl w' ad' gs.length (gs.flatMap cg) ∧ Own W.heap.size w'.heap.size ad' ∧ Below W.heap.size W w') := fun W h => clone_any gs ag ca W hg1 (sg.below h)
    have HT : Hid (∀ a m gl W, Below w.heap.size w W → TG W a gs → Blk W a [.int .i64 em, gl, .map (some m)] 97 → MapAt W m [] → Calls Try.prog 50 #[.pointer (some ⟨a, 0, none⟩), .slice ap ps.length cb] W fun e w' => e = .returned (.bool (prOK gs none ps)) ∧ (prOK gs none ps = true → MapAt w' m ps ∧ RiseP ps) ∧ Only [m] W w') :=
      fun a m gl W hb h1 h2 h3 => take_any gs ps HU.out a m _ gl ap cb W h1 h2 h3 (sp.below hb) (by omega)
    rw [h6] at HT
    have HP : Hid (prOK gs none ps = false) := h6
    have HL : Hid (gs.length ≤ 1024 ∧ ps.length ≤ 4096) := ⟨hg1, hp1⟩
    have hx0 := (Blk.new w #[.int .i64 em, .slice ag gs.length ca, .slice ap ps.length cb] 25 rfl)
    clear B0 sg sp hg hp h5 hg1 hp1 h6 hv
    obtain ⟨n, hne⟩ : ∃ n, gs.length = n := ⟨_, rfl⟩
    obtain ⟨q, hqe⟩ : ∃ q, ps.length = q := ⟨_, rfl⟩
    have HN : Hid (gs.length = n) := hne
    have HQ : Hid (ps.length = q) := hqe
    rw [hne, hqe] at HB hx0
    rw [hne] at h3 HA HC ⊢
    rw [hqe] at h4 HT ⊢
    clear hne hqe
    go_enter Try.func20, Try.ntmps20
    go_wp2_with (go_at_call 48; refine (HA.out _ HB.out).mono ?_; rintro e w1 ⟨rfl, hb1⟩; have HB1 := hid (HB.out.trans (hb1.mono (by simp))); have hx1 := hx0.below hb1; have k0 : w1.cell? ⟨w.heap.size, 0, none⟩ = some (.int .i64 em) := hx1.cell 0; have k1 : w1.cell? ⟨w.heap.size, 1, none⟩ = some (.slice ag n ca) := hx1.cell 1)
    clear hb1
    have HX : Hid (∀ W, Below w1.heap.size w1 W → W.cell? ⟨w.heap.size, 0, none⟩ = some (.int .i64 em) ∧ W.cell? ⟨w.heap.size, 1, none⟩ = some (.slice ag n ca)) := fun W h => ⟨(hx1.below h).cell 0, (hx1.below h).cell 1⟩
    have hS0 := HX.out w1 (Below.refl _ _)
    have hmm := @run_makeMap Try.prog
    go_region_held3 (fun W => W.cell? ⟨w.heap.size, 0, none⟩ = some (.int .i64 em) ∧ W.cell? ⟨w.heap.size, 1, none⟩ = some (.slice ag n ca))
      (first | exact hS0 | exact hS5 | exact HX.out _ (by first | exact (Below.refl _ _).alloc (Nat.le_refl _) _ | exact (Below.refl _ _).drew | exact ((Below.refl _ _).drew).alloc (Nat.le_refl _) _ | exact (hB5.drew).alloc hB5.size _ | exact hB5.alloc hB5.size _ | exact (hB5.alloc hB5.size _).alloc (by have := hB5.size; simp; omega) _))
      ((go_at_call 49; refine (HC.out _ ?_).mono ?_; (first | exact HB1.out.drew | exact HB1.out | exact (HB1.out.drew).alloc HB1.out.size _ | exact (HB1.out.alloc HB1.out.size _)); rintro e w5 ⟨ad', cap', rfl, hsl5, how5, hb5⟩; have HSL := hid hsl5; have HOW := hid how5; have HBB := hid hb5; have hB5 : Below w1.heap.size w1 w5 := (by first | exact undrew hb5 | exact hb5 | exact ((Below.refl _ w1).alloc (Nat.le_refl _) _).trans ((undrew hb5).mono (by simp)) | exact (((Below.refl _ w1).drew).alloc (Nat.le_refl _) _).trans (hb5.mono (by simp))); have hS5 := HX.out _ hB5; clear hsl5 how5 hb5))
    · have T0 : Hid (Blk ((w5.alloc (.map #[] 0)).alloc (.cells #[.int .i64 em, .slice ad' n cap', .map (some w5.heap.size)] 97)) (w5.heap.size + 1) [.int .i64 em, .slice ad' n cap', .map (some w5.heap.size)] 97 ∧ Sl ((w5.alloc (.map #[] 0)).alloc (.cells #[.int .i64 em, .slice ad' n cap', .map (some w5.heap.size)] 97)) ad' n (gs.flatMap cg) ∧ MapAt ((w5.alloc (.map #[] 0)).alloc (.cells #[.int .i64 em, .slice ad' n cap', .map (some w5.heap.size)] 97)) w5.heap.size [] ∧ (w.heap.size ≤ (w5.heap.size + 1) ∧ (w5.heap.size + 1) < ((w5.alloc (.map #[] 0)).alloc (.cells #[.int .i64 em, .slice ad' n cap', .map (some w5.heap.size)] 97)).heap.size) ∧ (w.heap.size ≤ w5.heap.size ∧ w5.heap.size < ((w5.alloc (.map #[] 0)).alloc (.cells #[.int .i64 em, .slice ad' n cap', .map (some w5.heap.size)] 97)).heap.size) ∧ Own w.heap.size ((w5.alloc (.map #[] 0)).alloc (.cells #[.int .i64 em, .slice ad' n cap', .map (some w5.heap.size)] 97)).heap.size ad' ∧ Below w.heap.size w ((w5.alloc (.map #[] 0)).alloc (.cells #[.int .i64 em, .slice ad' n cap', .map (some w5.heap.size)] 97))) := by
        have z1 := HB1.out.size
        have z5 := hB5.size
        have s5 := HSL.out
        refine ⟨Blk.new _ _ 97 (by simp), (s5.only (((Only.refl [] w5).alloc _).alloc _)), ?_, by simp; omega, by simp; omega, fun b off e => by have := HOW.out b off e; simp at this ⊢; omega, HB1.out.trans (((hB5.alloc hB5.size _).alloc (by simp; omega) _).mono z1)⟩
        exact (Below.heap_alloc _ _ _ (by simp)).trans (heap_alloc_new _ _)
      have HB6 : Hid (Below w1.heap.size w1 (((w5.alloc (.map #[] 0)).alloc (.cells #[.int .i64 em, .slice ad' n cap', .map (some w5.heap.size)] 97)))) := (hB5.alloc hB5.size _).alloc (by have := hB5.size; simp; omega) _
      have hk2 : (((w5.alloc (.map #[] 0)).alloc (.cells #[.int .i64 em, .slice ad' n cap', .map (some w5.heap.size)] 97))).cell? ⟨w.heap.size, 2, none⟩ = some (.slice ap q cb) := (hx1.below HB6.out).cell 2
      obtain ⟨W7, hW7⟩ : ∃ W, ((w5.alloc (.map #[] 0)).alloc (.cells #[.int .i64 em, .slice ad' n cap', .map (some w5.heap.size)] 97)) = W := ⟨_, rfl⟩
      obtain ⟨a7, ha7⟩ : ∃ a, (w5.heap.size + 1) = a := ⟨_, rfl⟩
      rw [hW7, ha7] at T0
      rw [hW7] at hk2 HB6
      rw [hW7, ha7]
      have tg : Hid (TG W7 a7 gs) := by
        obtain ⟨tb, ts, _⟩ := T0.out
        exact ⟨HR.out, by have := HL.out; omega, em, ad', cap', _, by rw [HN.out]; exact tb, by rw [HN.out]; exact ts⟩
      have hz7 := HB6.out.size
      have HA7 : Hid ((w5.heap.size + 1) = a7) := ha7
      clear hW7 ha7 hS5 hS0 HSL HOW HBB hB5 k0 k1
      go_wp2_with (go_at_call 50; refine (HT.out _ _ _ _ (HB1.out.trans (HB6.out.mono HB1.out.size)) tg.out T0.out.1 T0.out.2.2.1).mono ?_; rintro e w8 ⟨rfl, h8, ho8⟩)
      go_ret2
      refine Made.wrong HV.out (by decide) rfl ?_
      have hb := T0.out.2.2.2.2.2.2
      exact (((Only.ofBelow hb).mono (by simp)).trans ho8).toBelow (Nat.le_refl _) (by intro k hk; rw [List.mem_singleton.1 hk]; exact T0.out.2.2.2.2.1.1)
    · have T0 : Hid (Blk (w5.alloc (.cells #[.int .i64 em, .slice ad' n cap', .map (some w1.heap.size)] 97)) w5.heap.size [.int .i64 em, .slice ad' n cap', .map (some w1.heap.size)] 97 ∧ Sl (w5.alloc (.cells #[.int .i64 em, .slice ad' n cap', .map (some w1.heap.size)] 97)) ad' n (gs.flatMap cg) ∧ MapAt (w5.alloc (.cells #[.int .i64 em, .slice ad' n cap', .map (some w1.heap.size)] 97)) w1.heap.size [] ∧ (w.heap.size ≤ w5.heap.size ∧ w5.heap.size < (w5.alloc (.cells #[.int .i64 em, .slice ad' n cap', .map (some w1.heap.size)] 97)).heap.size) ∧ (w.heap.size ≤ w1.heap.size ∧ w1.heap.size < (w5.alloc (.cells #[.int .i64 em, .slice ad' n cap', .map (some w1.heap.size)] 97)).heap.size) ∧ Own w.heap.size (w5.alloc (.cells #[.int .i64 em, .slice ad' n cap', .map (some w1.heap.size)] 97)).heap.size ad' ∧ Below w.heap.size w (w5.alloc (.cells #[.int .i64 em, .slice ad' n cap', .map (some w1.heap.size)] 97))) := by
        have z1 := HB1.out.size
        have z5 := hB5.size
        have s5 := HSL.out
        refine ⟨Blk.new _ _ 97 rfl, (s5.only ((Only.refl [] w5).alloc _)), ?_, by simp; omega, by simp; have := HBB.out.size; simp at this; omega, fun b off e => by have := HOW.out b off e; simp at this ⊢; omega, HB1.out.trans ((hB5.alloc hB5.size _).mono z1)⟩
        exact ((Below.refl _ w5).alloc (Nat.le_refl _) _).block _ (by have := HBB.out.size; simp at this; omega) |>.trans ((HBB.out.block _ (by simp)).trans (heap_alloc_new _ _))
      have HB6 : Hid (Below w1.heap.size w1 ((w5.alloc (.cells #[.int .i64 em, .slice ad' n cap', .map (some w1.heap.size)] 97)))) := hB5.alloc hB5.size _
      have hk2 : ((w5.alloc (.cells #[.int .i64 em, .slice ad' n cap', .map (some w1.heap.size)] 97))).cell? ⟨w.heap.size, 2, none⟩ = some (.slice ap q cb) := (hx1.below HB6.out).cell 2
      obtain ⟨W7, hW7⟩ : ∃ W, (w5.alloc (.cells #[.int .i64 em, .slice ad' n cap', .map (some w1.heap.size)] 97)) = W := ⟨_, rfl⟩
      obtain ⟨a7, ha7⟩ : ∃ a, w5.heap.size = a := ⟨_, rfl⟩
      rw [hW7, ha7] at T0
      rw [hW7] at hk2 HB6
      rw [hW7, ha7]
      have tg : Hid (TG W7 a7 gs) := by
        obtain ⟨tb, ts, _⟩ := T0.out
        exact ⟨HR.out, by have := HL.out; omega, em, ad', cap', _, by rw [HN.out]; exact tb, by rw [HN.out]; exact ts⟩
      have hz7 := HB6.out.size
      have HA7 : Hid (w5.heap.size = a7) := ha7
      clear hW7 ha7 hS5 hS0 HSL HOW HBB hB5 k0 k1
      go_wp2_with (go_at_call 50; refine (HT.out _ _ _ _ (HB1.out.trans (HB6.out.mono HB1.out.size)) tg.out T0.out.1 T0.out.2.2.1).mono ?_; rintro e w8 ⟨rfl, h8, ho8⟩)
      go_ret2
      refine Made.wrong HV.out (by decide) rfl ?_
      have hb := T0.out.2.2.2.2.2.2
      exact (((Only.ofBelow hb).mono (by simp)).trans ho8).toBelow (Nat.le_refl _) (by intro k hk; rw [List.mem_singleton.1 hk]; exact T0.out.2.2.2.2.1.1)
  · have HV : Hid _ := hv
    have HB : Hid _ := B0
    have hg1 : gs.length ≤ 1024 := by omega
    have hp1 : ps.length ≤ 4096 := by omega
    have HU : Hid (∀ g ∈ gs, units g = true) := units_of h5
    have HR : Hid (Rise gs) := (rise_of h5).1
    have HOK : Hid (glOK (-1) gs = true) := h5
    have HA : Hid (∀ W, Below w.heap.size w W → Calls Try.prog 48 #[.slice ag gs.length ca] W fun e w' => e = .returned (.bool true) ∧ Below W.heap.size W w') := fun W h => by
      have := areGlyphs_any gs ag ca W hg (sg.below h)
      rwa [h5] at this
    have HC : Hid (∀ W, Below w.heap.size w W → Calls Try.prog 49 #[.slice ag gs.length ca] W fun e w' => ∃ ad' cap', e = .returned (.slice ad' gs.length cap') ∧ Sl w' ad' gs.length (gs.flatMap cg) ∧ Own W.heap.size w'.heap.size ad' ∧ Below W.heap.size W w') := fun W h => clone_any gs ag ca W hg1 (sg.below h)
    have HT : Hid (∀ a m gl W, Below w.heap.size w W → TG W a gs → Blk W a [.int .i64 em, gl, .map (some m)] 97 → MapAt W m [] → Calls Try.prog 50 #[.pointer (some ⟨a, 0, none⟩), .slice ap ps.length cb] W fun e w' => e = .returned (.bool (prOK gs none ps)) ∧ (prOK gs none ps = true → MapAt w' m ps ∧ RiseP ps) ∧ Only [m] W w') :=
      fun a m gl W hb h1 h2 h3 => take_any gs ps HU.out a m _ gl ap cb W h1 h2 h3 (sp.below hb) (by omega)
    rw [h6] at HT
    have HP : Hid (prOK gs none ps = true) := h6
    have HL : Hid (gs.length ≤ 1024 ∧ ps.length ≤ 4096) := ⟨hg1, hp1⟩
    have hx0 := (Blk.new w #[.int .i64 em, .slice ag gs.length ca, .slice ap ps.length cb] 25 rfl)
    clear B0 sg sp hg hp h5 hg1 hp1 h6 hv
    obtain ⟨n, hne⟩ : ∃ n, gs.length = n := ⟨_, rfl⟩
    obtain ⟨q, hqe⟩ : ∃ q, ps.length = q := ⟨_, rfl⟩
    have HN : Hid (gs.length = n) := hne
    have HQ : Hid (ps.length = q) := hqe
    rw [hne, hqe] at HB hx0
    rw [hne] at h3 HA HC ⊢
    rw [hqe] at h4 HT ⊢
    clear hne hqe
    go_enter Try.func20, Try.ntmps20
    go_wp2_with (go_at_call 48; refine (HA.out _ HB.out).mono ?_; rintro e w1 ⟨rfl, hb1⟩; have HB1 := hid (HB.out.trans (hb1.mono (by simp))); have hx1 := hx0.below hb1; have k0 : w1.cell? ⟨w.heap.size, 0, none⟩ = some (.int .i64 em) := hx1.cell 0; have k1 : w1.cell? ⟨w.heap.size, 1, none⟩ = some (.slice ag n ca) := hx1.cell 1)
    clear hb1
    have HX : Hid (∀ W, Below w1.heap.size w1 W → W.cell? ⟨w.heap.size, 0, none⟩ = some (.int .i64 em) ∧ W.cell? ⟨w.heap.size, 1, none⟩ = some (.slice ag n ca)) := fun W h => ⟨(hx1.below h).cell 0, (hx1.below h).cell 1⟩
    have hS0 := HX.out w1 (Below.refl _ _)
    have hmm := @run_makeMap Try.prog
    go_region_held3 (fun W => W.cell? ⟨w.heap.size, 0, none⟩ = some (.int .i64 em) ∧ W.cell? ⟨w.heap.size, 1, none⟩ = some (.slice ag n ca))
      (first | exact hS0 | exact hS5 | exact HX.out _ (by first | exact (Below.refl _ _).alloc (Nat.le_refl _) _ | exact (Below.refl _ _).drew | exact ((Below.refl _ _).drew).alloc (Nat.le_refl _) _ | exact (hB5.drew).alloc hB5.size _ | exact hB5.alloc hB5.size _ | exact (hB5.alloc hB5.size _).alloc (by have := hB5.size; simp; omega) _))
      ((go_at_call 49; refine (HC.out _ ?_).mono ?_; (first | exact HB1.out.drew | exact HB1.out | exact (HB1.out.drew).alloc HB1.out.size _ | exact (HB1.out.alloc HB1.out.size _)); rintro e w5 ⟨ad', cap', rfl, hsl5, how5, hb5⟩; have HSL := hid hsl5; have HOW := hid how5; have HBB := hid hb5; have hB5 : Below w1.heap.size w1 w5 := (by first | exact undrew hb5 | exact hb5 | exact ((Below.refl _ w1).alloc (Nat.le_refl _) _).trans ((undrew hb5).mono (by simp)) | exact (((Below.refl _ w1).drew).alloc (Nat.le_refl _) _).trans (hb5.mono (by simp))); have hS5 := HX.out _ hB5; clear hsl5 how5 hb5))
    · have T0 : Hid (Blk ((w5.alloc (.map #[] 0)).alloc (.cells #[.int .i64 em, .slice ad' n cap', .map (some w5.heap.size)] 97)) (w5.heap.size + 1) [.int .i64 em, .slice ad' n cap', .map (some w5.heap.size)] 97 ∧ Sl ((w5.alloc (.map #[] 0)).alloc (.cells #[.int .i64 em, .slice ad' n cap', .map (some w5.heap.size)] 97)) ad' n (gs.flatMap cg) ∧ MapAt ((w5.alloc (.map #[] 0)).alloc (.cells #[.int .i64 em, .slice ad' n cap', .map (some w5.heap.size)] 97)) w5.heap.size [] ∧ (w.heap.size ≤ (w5.heap.size + 1) ∧ (w5.heap.size + 1) < ((w5.alloc (.map #[] 0)).alloc (.cells #[.int .i64 em, .slice ad' n cap', .map (some w5.heap.size)] 97)).heap.size) ∧ (w.heap.size ≤ w5.heap.size ∧ w5.heap.size < ((w5.alloc (.map #[] 0)).alloc (.cells #[.int .i64 em, .slice ad' n cap', .map (some w5.heap.size)] 97)).heap.size) ∧ Own w.heap.size ((w5.alloc (.map #[] 0)).alloc (.cells #[.int .i64 em, .slice ad' n cap', .map (some w5.heap.size)] 97)).heap.size ad' ∧ Below w.heap.size w ((w5.alloc (.map #[] 0)).alloc (.cells #[.int .i64 em, .slice ad' n cap', .map (some w5.heap.size)] 97))) := by
        have z1 := HB1.out.size
        have z5 := hB5.size
        have s5 := HSL.out
        refine ⟨Blk.new _ _ 97 (by simp), (s5.only (((Only.refl [] w5).alloc _).alloc _)), ?_, by simp; omega, by simp; omega, fun b off e => by have := HOW.out b off e; simp at this ⊢; omega, HB1.out.trans (((hB5.alloc hB5.size _).alloc (by simp; omega) _).mono z1)⟩
        exact (Below.heap_alloc _ _ _ (by simp)).trans (heap_alloc_new _ _)
      have HB6 : Hid (Below w1.heap.size w1 (((w5.alloc (.map #[] 0)).alloc (.cells #[.int .i64 em, .slice ad' n cap', .map (some w5.heap.size)] 97)))) := (hB5.alloc hB5.size _).alloc (by have := hB5.size; simp; omega) _
      have hk2 : (((w5.alloc (.map #[] 0)).alloc (.cells #[.int .i64 em, .slice ad' n cap', .map (some w5.heap.size)] 97))).cell? ⟨w.heap.size, 2, none⟩ = some (.slice ap q cb) := (hx1.below HB6.out).cell 2
      obtain ⟨W7, hW7⟩ : ∃ W, ((w5.alloc (.map #[] 0)).alloc (.cells #[.int .i64 em, .slice ad' n cap', .map (some w5.heap.size)] 97)) = W := ⟨_, rfl⟩
      obtain ⟨a7, ha7⟩ : ∃ a, (w5.heap.size + 1) = a := ⟨_, rfl⟩
      rw [hW7, ha7] at T0
      rw [hW7] at hk2 HB6
      rw [hW7, ha7]
      have tg : Hid (TG W7 a7 gs) := by
        obtain ⟨tb, ts, _⟩ := T0.out
        exact ⟨HR.out, by have := HL.out; omega, em, ad', cap', _, by rw [HN.out]; exact tb, by rw [HN.out]; exact ts⟩
      have hz7 := HB6.out.size
      have HA7 : Hid ((w5.heap.size + 1) = a7) := ha7
      clear hW7 ha7 hS5 hS0 HSL HOW HBB hB5 k0 k1
      go_wp2_with (go_at_call 50; refine (HT.out _ _ _ _ (HB1.out.trans (HB6.out.mono HB1.out.size)) tg.out T0.out.1 T0.out.2.2.1).mono ?_; rintro e w8 ⟨rfl, h8, ho8⟩)
      go_ret2
      refine ⟨fun h => absurd HV.out h, fun _ => ⟨_, rfl, ?_⟩, ?_⟩
      · obtain ⟨tb, ts, tm, ta, tmm, tow, tbel⟩ := T0.out
        have hs8 := ho8.size
        have nm : ∀ b off, ad' = some ⟨b, off, none⟩ → gs.length ≠ 0 → b ≠ _ := fun b off e h0 => by
          have hsl := ts (by rw [← HN.out]; exact h0)
          obtain ⟨b2, off2, e2, hat⟩ := hsl
          rw [e] at e2; cases e2
          exact hat.no_map tm (flat_ne cg_len (by decide) h0)
        refine ⟨HOK.out, HP.out, (h8 trivial).2, HL.out.1, HL.out.2, ad', cap', _, ?_, ?_, (h8 trivial).1, ⟨ta.1, by omega⟩, ⟨tmm.1, by omega⟩, fun b off e => by have := tow b off e; omega⟩
        · rw [HN.out]
          refine ho8.blk tb ?_
          simp only [List.mem_singleton]
          intro e
          unfold Blk at tb; unfold MapAt at tm
          rw [e] at tb
          rw [tb] at tm; cases tm
        · rw [HN.out]
          intro h0
          obtain ⟨b2, off2, e2, hat⟩ := ts h0
          exact ⟨b2, off2, e2, hat.keep ho8 (by simp only [List.mem_singleton]; exact nm b2 off2 e2 (by rw [HN.out]; exact h0))⟩
      · have hb := T0.out.2.2.2.2.2.2
        exact (((Only.ofBelow hb).mono (by simp)).trans ho8).toBelow (Nat.le_refl _) (by intro k hk; rw [List.mem_singleton.1 hk]; exact T0.out.2.2.2.2.1.1)
    · have T0 : Hid (Blk (w5.alloc (.cells #[.int .i64 em, .slice ad' n cap', .map (some w1.heap.size)] 97)) w5.heap.size [.int .i64 em, .slice ad' n cap', .map (some w1.heap.size)] 97 ∧ Sl (w5.alloc (.cells #[.int .i64 em, .slice ad' n cap', .map (some w1.heap.size)] 97)) ad' n (gs.flatMap cg) ∧ MapAt (w5.alloc (.cells #[.int .i64 em, .slice ad' n cap', .map (some w1.heap.size)] 97)) w1.heap.size [] ∧ (w.heap.size ≤ w5.heap.size ∧ w5.heap.size < (w5.alloc (.cells #[.int .i64 em, .slice ad' n cap', .map (some w1.heap.size)] 97)).heap.size) ∧ (w.heap.size ≤ w1.heap.size ∧ w1.heap.size < (w5.alloc (.cells #[.int .i64 em, .slice ad' n cap', .map (some w1.heap.size)] 97)).heap.size) ∧ Own w.heap.size (w5.alloc (.cells #[.int .i64 em, .slice ad' n cap', .map (some w1.heap.size)] 97)).heap.size ad' ∧ Below w.heap.size w (w5.alloc (.cells #[.int .i64 em, .slice ad' n cap', .map (some w1.heap.size)] 97))) := by
        have z1 := HB1.out.size
        have z5 := hB5.size
        have s5 := HSL.out
        refine ⟨Blk.new _ _ 97 rfl, (s5.only ((Only.refl [] w5).alloc _)), ?_, by simp; omega, by simp; have := HBB.out.size; simp at this; omega, fun b off e => by have := HOW.out b off e; simp at this ⊢; omega, HB1.out.trans ((hB5.alloc hB5.size _).mono z1)⟩
        exact ((Below.refl _ w5).alloc (Nat.le_refl _) _).block _ (by have := HBB.out.size; simp at this; omega) |>.trans ((HBB.out.block _ (by simp)).trans (heap_alloc_new _ _))
      have HB6 : Hid (Below w1.heap.size w1 ((w5.alloc (.cells #[.int .i64 em, .slice ad' n cap', .map (some w1.heap.size)] 97)))) := hB5.alloc hB5.size _
      have hk2 : ((w5.alloc (.cells #[.int .i64 em, .slice ad' n cap', .map (some w1.heap.size)] 97))).cell? ⟨w.heap.size, 2, none⟩ = some (.slice ap q cb) := (hx1.below HB6.out).cell 2
      obtain ⟨W7, hW7⟩ : ∃ W, (w5.alloc (.cells #[.int .i64 em, .slice ad' n cap', .map (some w1.heap.size)] 97)) = W := ⟨_, rfl⟩
      obtain ⟨a7, ha7⟩ : ∃ a, w5.heap.size = a := ⟨_, rfl⟩
      rw [hW7, ha7] at T0
      rw [hW7] at hk2 HB6
      rw [hW7, ha7]
      have tg : Hid (TG W7 a7 gs) := by
        obtain ⟨tb, ts, _⟩ := T0.out
        exact ⟨HR.out, by have := HL.out; omega, em, ad', cap', _, by rw [HN.out]; exact tb, by rw [HN.out]; exact ts⟩
      have hz7 := HB6.out.size
      have HA7 : Hid (w5.heap.size = a7) := ha7
      clear hW7 ha7 hS5 hS0 HSL HOW HBB hB5 k0 k1
      go_wp2_with (go_at_call 50; refine (HT.out _ _ _ _ (HB1.out.trans (HB6.out.mono HB1.out.size)) tg.out T0.out.1 T0.out.2.2.1).mono ?_; rintro e w8 ⟨rfl, h8, ho8⟩)
      go_ret2
      refine ⟨fun h => absurd HV.out h, fun _ => ⟨_, rfl, ?_⟩, ?_⟩
      · obtain ⟨tb, ts, tm, ta, tmm, tow, tbel⟩ := T0.out
        have hs8 := ho8.size
        have nm : ∀ b off, ad' = some ⟨b, off, none⟩ → gs.length ≠ 0 → b ≠ _ := fun b off e h0 => by
          have hsl := ts (by rw [← HN.out]; exact h0)
          obtain ⟨b2, off2, e2, hat⟩ := hsl
          rw [e] at e2; cases e2
          exact hat.no_map tm (flat_ne cg_len (by decide) h0)
        refine ⟨HOK.out, HP.out, (h8 trivial).2, HL.out.1, HL.out.2, ad', cap', _, ?_, ?_, (h8 trivial).1, ⟨ta.1, by omega⟩, ⟨tmm.1, by omega⟩, fun b off e => by have := tow b off e; omega⟩
        · rw [HN.out]
          refine ho8.blk tb ?_
          simp only [List.mem_singleton]
          intro e
          unfold Blk at tb; unfold MapAt at tm
          rw [e] at tb
          rw [tb] at tm; cases tm
        · rw [HN.out]
          intro h0
          obtain ⟨b2, off2, e2, hat⟩ := ts h0
          exact ⟨b2, off2, e2, hat.keep ho8 (by simp only [List.mem_singleton]; exact nm b2 off2 e2 (by rw [HN.out]; exact h0))⟩
      · have hb := T0.out.2.2.2.2.2.2
        exact (((Only.ofBelow hb).mono (by simp)).trans ho8).toBelow (Nat.le_refl _) (by intro k hk; rw [List.mem_singleton.1 hk]; exact T0.out.2.2.2.2.1.1)
end Go.Proofs.Ytdinlaoimpoolaa
