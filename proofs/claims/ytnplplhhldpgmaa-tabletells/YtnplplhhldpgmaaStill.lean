/- still: what was lent is as it was; then it is written over. -/
import Derived.Test.YtnplplhhldpgmaaLent
import Derived.Test.YtnplplhhldpgmaaAlike
namespace Go.Proofs.Ytnplplhhldpgmaa
open Go.RowKit Go.Shelf

/-- a block of so many cells of this type, to be written into -/
def Big (W : World) (b : Nat) (t : TypeId) (L : Nat) : Prop := ∃ xs : List Value, Blk W b xs t ∧ xs.length = L
theorem Big.set {W : World} {b : Nat} {t : TypeId} {L : Nat} (h : Big W b t L) (i : Nat) (v : Value) : Big (W.setCell ⟨b, i, none⟩ v) b t L := by
  obtain ⟨xs, h1, h2⟩ := h
  exact ⟨xs.set i v, h1.set i v, by rw [List.length_set]; exact h2⟩
theorem Big.other {W : World} {b : Nat} {t : TypeId} {L : Nat} (h : Big W b t L) (a : Addr) (v : Value) (hn : b ≠ a.block) : Big (W.setCell a v) b t L := by
  obtain ⟨xs, h1, h2⟩ := h
  exact ⟨xs, h1.other a v hn, h2⟩
theorem Big.cell {W : World} {b : Nat} {t : TypeId} {L : Nat} (h : Big W b t L) {i : Nat} (hi : i < L) : ∃ u, W.cell? ⟨b, i, none⟩ = some u := by
  obtain ⟨xs, h1, h2⟩ := h
  exact ⟨xs[i], (h1.cell i).trans (List.getElem?_eq_getElem (by omega))⟩
theorem Big.froz {W : World} {b : Nat} {t : TypeId} {L : Nat} (h : Big W b t L) (i : Nat) : W.frozen? ⟨b, i, none⟩ = false := by
  obtain ⟨xs, h1, _⟩ := h
  exact h1.froz i
theorem Big.below {W W' : World} {b : Nat} {t : TypeId} {L : Nat} (h : Big W b t L) (k : Below W.heap.size W W') : Big W' b t L := by
  obtain ⟨xs, h1, h2⟩ := h
  exact ⟨xs, h1.below k, h2⟩
theorem Big.ne {W : World} {b b' : Nat} {t t' : TypeId} {L L' : Nat} (h : Big W b t L) (k : Big W b' t' L') (hn : t ≠ t') : b ≠ b' := by
  rintro rfl
  obtain ⟨xs, h1, _⟩ := h
  obtain ⟨ys, k1, _⟩ := k
  exact hn (h1.same k1).2
theorem row_big {w : World} {base size n c b : Nat} {e : TypeId} {xs : List Value} (h : w.ownsRow base e size (.slice (some ⟨b, 0, none⟩) n c) n xs) : Big w b e (c * size) ∧ n ≤ c ∧ At w b 0 xs ∧ base ≤ b := by
  obtain ⟨ad, cap, e1, hsl, _⟩ := row_reads h
  cases e1
  rcases h.2 with ⟨e2, _⟩ | ⟨g, cap', cur, e2, hb, hh, hnc, _, hs, hx⟩
  · cases e2
  · cases e2
    refine ⟨⟨cur.toList, by simpa [Blk] using hh, by simpa using hs⟩, hnc, ?_, hb⟩
    have hlt : b < w.heap.size := by
      rcases Nat.lt_or_ge b w.heap.size with q | q
      · exact q
      · rw [Array.getElem?_eq_none q] at hh; cases hh
    refine ⟨hlt, fun j u hj => ?_⟩
    rw [← hx, List.getElem?_take] at hj
    split at hj
    · simp only [World.cell?, hh, Nat.zero_add]
      simpa using hj
    · cases hj

set_option maxRecDepth 100000 in
set_option maxHeartbeats 8000000 in
theorem still_any (em : Int) (gs : List Gl) (ps : List Pr) (ag ap : Option Addr) (ca cb bg c bp d B : Nat) (w : World) (hn : gs.length ≤ 2147483647) (hm : ps.length ≤ 2147483647) (sg : Sl w ag gs.length (gs.flatMap cg)) (sp : Sl w ap ps.length (ps.flatMap cp))
    (rg : w.ownsRow B 45 4 (.slice (some ⟨bg, 0, none⟩) (gs.length + 1) c) (gs.length + 1) (gs.flatMap cg ++ cg (-77, 0, 0, 0))) (rp : w.ownsRow B 52 5 (.slice (some ⟨bp, 0, none⟩) (ps.length + 1) d) (ps.length + 1) (ps.flatMap cp ++ cp (-77, 0, false, 0, 0))) :
    Calls Try.prog 12 #[.agg #[.int .i64 em, .slice (some ⟨bg, 0, none⟩) gs.length c, .slice (some ⟨bp, 0, none⟩) ps.length d], .agg #[.int .i64 em, .slice ag gs.length ca, .slice ap ps.length cb]] w fun e w' => e = .returned (.bool true) ∧ Only [bg, bp] w w' := by
  obtain ⟨Bg, hgc, Ag, _⟩ := row_big rg
  obtain ⟨Bp, hpd, Ap, _⟩ := row_big rp
  have HSM : Hid (∀ X, Below w.heap.size w X → Calls Try.prog 18 #[.agg #[.int .i64 em, .slice (some ⟨bg, 0, none⟩) gs.length c, .slice (some ⟨bp, 0, none⟩) ps.length d], .agg #[.int .i64 em, .slice ag gs.length ca, .slice ap ps.length cb]] X fun e w' => e = .returned (.bool true) ∧ Below X.heap.size X w') := hid fun X h =>
    same_true em gs ps (some ⟨bg, 0, none⟩) ag (some ⟨bp, 0, none⟩) ap c ca d cb X hn hm (Sl.below (fun _ => ⟨bg, 0, rfl, Ag.take⟩) h) (Sl.below (fun _ => ⟨bp, 0, rfl, Ap.take⟩) h) (sg.below h) (sp.below h)
  have HBN := hid (Bg.ne Bp (by decide))
  have hxg : w.cell? ⟨bg, gs.length * 4, none⟩ = some (.int .i64 (-77)) := by
    have := Ag.2 (gs.length * 4) (.int .i64 (-77)) (by rw [List.getElem?_append_right (by rw [flat_len cg_len]; omega), flat_len cg_len, Nat.sub_self]; rfl)
    rwa [Nat.zero_add] at this
  have hxp : w.cell? ⟨bp, ps.length * 5, none⟩ = some (.int .i64 (-77)) := by
    have := Ap.2 (ps.length * 5) (.int .i64 (-77)) (by rw [List.getElem?_append_right (by rw [flat_len cp_len]; omega), flat_len cp_len, Nat.sub_self]; rfl)
    rwa [Nat.zero_add] at this
  have HBG := hid Bg
  have HBP := hid Bp
  obtain ⟨n, hne⟩ : ∃ n, gs.length = n := ⟨_, rfl⟩
  obtain ⟨m, hme⟩ : ∃ m, ps.length = m := ⟨_, rfl⟩
  rw [hne] at hgc hxg hn
  rw [hme] at hpd hxp hm
  rw [hne, hme] at HSM ⊢
  have HXG := hid hxg
  have HXP := hid hxp
  have hlg := Ag.1
  have hlp := Ap.1
  clear rg rp Bg Bp Ag Ap sg sp hne hme hxg hxp
  have BX := (Blk.new w #[.int .i64 em, .slice (some ⟨bg, 0, none⟩) n c, .slice (some ⟨bp, 0, none⟩) m d] 25 rfl).alloc (.cells #[.int .i64 em, .slice ag n ca, .slice ap m cb] 25)
  have BF := Blk.new (w.alloc (.cells #[.int .i64 em, .slice (some ⟨bg, 0, none⟩) n c, .slice (some ⟨bp, 0, none⟩) m d] 25)) #[.int .i64 em, .slice ag n ca, .slice ap m cb] 25 (k := w.heap.size + 1) (by simp)
  have B0 : Below w.heap.size w ((w.alloc (.cells #[.int .i64 em, .slice (some ⟨bg, 0, none⟩) n c, .slice (some ⟨bp, 0, none⟩) m d] 25)).alloc (.cells #[.int .i64 em, .slice ag n ca, .slice ap m cb] 25)) := ((Below.refl _ w).alloc (Nat.le_refl _) _).alloc (by simp) _
  have HB0 := hid B0
  have HBF := hid BF
  have HBX := hid BX
  have hgi : (n : Int) + 1 ≤ (c : Int) := by omega
  have hpi : (m : Int) + 1 ≤ (d : Int) := by omega
  have hni : (n : Int) ≤ 2147483647 := by omega
  have hmi : (m : Int) ≤ 2147483647 := by omega
  have hn1 : (n : Int) < (n : Int) + 1 := by omega
  have hm1 : (m : Int) < (m : Int) + 1 := by omega
  clear BX BF B0
  go_enter Try.func12, Try.ntmps12
  go_wp2_with fail
  refine (HSM.out _ HB0.out).mono ?_
  rintro e w2 ⟨rfl, hb⟩
  have HB2 := hid (HB0.out.trans (hb.mono (by simp; omega)))
  have HF2 := hid (HBF.out.below hb)
  have k1 : w2.cell? ⟨w.heap.size + 1, 1, none⟩ = some (.slice ag n ca) := HF2.out.cell 1
  have k2 : w2.cell? ⟨w.heap.size + 1, 2, none⟩ = some (.slice ap m cb) := HF2.out.cell 2
  have kg : w2.cell? ⟨bg, n * 4, none⟩ = some (.int .i64 (-77)) := (HB2.out.cell (p := ⟨bg, n * 4, none⟩) hlg).trans HXG.out
  have kp : w2.cell? ⟨bp, m * 5, none⟩ = some (.int .i64 (-77)) := (HB2.out.cell (p := ⟨bp, m * 5, none⟩) hlp).trans HXP.out
  clear hb
  go_wp2_with fail
  have HO2 : Hid (Only [bg, bp] w w2) := hid ((Only.ofBelow HB2.out).mono (by simp))
  have HG2 := hid (HBG.out.below HB2.out)
  have HP2 := hid (HBP.out.below HB2.out)
  clear k1 k2 kg kp HB2 HF2 HBF HBX HB0 HSM HXG HXP HBG HBP hlg hlp
  go_loopw [8] (fun vi wr => ∃ k : Nat, vi = .int .i64 k ∧ k ≤ n + 1 ∧ Only [bg, bp] w wr ∧ Big wr bg 45 (c * 4) ∧ Big wr bp 52 (d * 5)) (fun vi _ => n + 1 - (RowKit.intOf vi).toNat)
  case atStart => exact ⟨0, rfl, by omega, HO2.out, HG2.out, HP2.out⟩
  case round =>
    obtain ⟨k, rfl, hk, ho, hg, hp⟩ := hrel
    clear HO2 HG2 HP2
    by_cases hlt : k < n + 1
    · have HO := hid ho
      have HG := hid hg
      have HP := hid hp
      obtain ⟨u0, z0⟩ := hg.cell (i := k * 4) (by omega)
      obtain ⟨u1, z1⟩ := hg.cell (i := k * 4 + 1) (by omega)
      obtain ⟨u2, z2⟩ := hg.cell (i := k * 4 + 2) (by omega)
      obtain ⟨u3, z3⟩ := hg.cell (i := k * 4 + 3) (by omega)
      have f0 := hg.froz (k * 4)
      have f1 := hg.froz (k * 4 + 1)
      have f2 := hg.froz (k * 4 + 2)
      have f3 := hg.froz (k * 4 + 3)
      have hli : (k : Int) < (n : Int) + 1 := by omega
      have hl0 : (0 : Int) ≤ (k : Int) := by omega
      clear ho hg hp
      go_wp2_with fail
      refine ⟨⟨k + 1, by go_num, by omega, (((HO.out.set (p := ⟨bg, k * 4, none⟩) (.inl (by simp)) _).set (p := ⟨bg, k * 4 + 1, none⟩) (.inl (by simp)) _).set (p := ⟨bg, k * 4 + 2, none⟩) (.inl (by simp)) _).set (p := ⟨bg, k * 4 + 3, none⟩) (.inl (by simp)) _,
        (((HG.out.set _ _).set _ _).set _ _).set _ _, (((HP.out.other _ _ (Ne.symm HBN.out)).other _ _ (Ne.symm HBN.out)).other _ _ (Ne.symm HBN.out)).other _ _ (Ne.symm HBN.out)⟩, ?_⟩
      simp [RowKit.intOf]; omega
    · have hkn : ¬ (k : Int) < (n : Int) + 1 := by omega
      have HO := hid ho
      have HG := hid hg
      have HP := hid hp
      clear ho hg hp
      go_wp2_with fail
      clear hkn
      go_loopw [9] (fun vi wr => ∃ k : Nat, vi = .int .i64 k ∧ k ≤ m + 1 ∧ Only [bg, bp] w wr ∧ Big wr bp 52 (d * 5)) (fun vi _ => m + 1 - (RowKit.intOf vi).toNat)
      case atStart => exact ⟨0, rfl, by omega, HO.out, HP.out⟩
      case round =>
        obtain ⟨k2, rfl, hk2, ho, hp⟩ := hrel
        clear HO HG HP
        by_cases hlt2 : k2 < m + 1
        · have HO := hid ho
          have HP := hid hp
          obtain ⟨u0, z0⟩ := hp.cell (i := k2 * 5) (by omega)
          obtain ⟨u1, z1⟩ := hp.cell (i := k2 * 5 + 1) (by omega)
          obtain ⟨u2, z2⟩ := hp.cell (i := k2 * 5 + 2) (by omega)
          obtain ⟨u3, z3⟩ := hp.cell (i := k2 * 5 + 3) (by omega)
          obtain ⟨u4, z4⟩ := hp.cell (i := k2 * 5 + 4) (by omega)
          have f0 := hp.froz (k2 * 5)
          have f1 := hp.froz (k2 * 5 + 1)
          have f2 := hp.froz (k2 * 5 + 2)
          have f3 := hp.froz (k2 * 5 + 3)
          have f4 := hp.froz (k2 * 5 + 4)
          have hli : (k2 : Int) < (m : Int) + 1 := by omega
          have hl0 : (0 : Int) ≤ (k2 : Int) := by omega
          clear ho hp
          go_wp2_with fail
          refine ⟨⟨k2 + 1, by go_num, by omega, ((((HO.out.set (p := ⟨bp, k2 * 5, none⟩) (.inl (by simp)) _).set (p := ⟨bp, k2 * 5 + 1, none⟩) (.inl (by simp)) _).set (p := ⟨bp, k2 * 5 + 2, none⟩) (.inl (by simp)) _).set (p := ⟨bp, k2 * 5 + 3, none⟩) (.inl (by simp)) _).set (p := ⟨bp, k2 * 5 + 4, none⟩) (.inl (by simp)) _,
            ((((HP.out.set _ _).set _ _).set _ _).set _ _).set _ _⟩, ?_⟩
          simp [RowKit.intOf]; omega
        · have hkn : ¬ (k2 : Int) < (m : Int) + 1 := by omega
          have HO := hid ho
          clear ho hp
          go_wp2_with fail
          go_ret
          exact ⟨rfl, HO.out⟩
end Go.Proofs.Ytnplplhhldpgmaa
