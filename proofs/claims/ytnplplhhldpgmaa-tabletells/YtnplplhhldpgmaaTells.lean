/- TableTells's walk. -/
import Derived.Test.YtnplplhhldpgmaaAnswers
import Derived.Test.YtnplplhhldpgmaaRefNew
namespace Go.Proofs.Ytnplplhhldpgmaa
open Go.RowKit Go.Shelf

theorem RT.keep {L : List Nat} {W W' : World} {a : Nat} {em : Int} {gs : List Gl} {ps : List Pr} {ag ap : Option Addr} {ca cb n : Nat} (h : RT W a em gs ps ag ca ap cb) (o : Only L W W') (hL : ∀ i ∈ L, i < n) (ha : n ≤ a) (hg : ∀ b off, ag = some ⟨b, off, none⟩ → n ≤ b) (hp : ∀ b off, ap = some ⟨b, off, none⟩ → n ≤ b) : RT W' a em gs ps ag ca ap cb :=
  ⟨o.blk h.blk (fun hm => by have := hL _ hm; omega), h.sg.keep o (fun b off e hm => by have := hL _ hm; have := hg b off e; omega), h.sp.keep o (fun b off e hm => by have := hL _ hm; have := hp b off e; omega)⟩

set_option maxRecDepth 100000 in
set_option maxHeartbeats 8000000 in
theorem tells_walk (em : Int) (gs : List Gl) (ps : List Pr) (ag ap : Option Addr) (ca cb : Nat) (aa : Option Addr) (qs : List (Int × Int)) (cc : Nat) (w : World) (hg : gs.length ≤ 9223372036854775807) (hp : ps.length ≤ 9223372036854775807) (hq : qs.length ≤ 9223372036854775807)
    (sg : Sl w ag gs.length (gs.flatMap cg)) (sp : Sl w ap ps.length (ps.flatMap cp)) (sq : Sl w aa qs.length (qs.flatMap cq)) :
    Calls Try.prog 3 #[.agg #[.int .i64 em, .slice ag gs.length ca, .slice ap ps.length cb], .slice aa qs.length cc] w fun e w' => e = .returned (.bool true) ∧ Below w.heap.size w w' := by
  have HS : Hid (Sl w ag gs.length (gs.flatMap cg) ∧ Sl w ap ps.length (ps.flatMap cp) ∧ Sl w aa qs.length (qs.flatMap cq)) := ⟨sg, sp, sq⟩
  have HL : Hid (gs.length ≤ 9223372036854775807 ∧ ps.length ≤ 9223372036854775807 ∧ qs.length ≤ 9223372036854775807) := ⟨hg, hp, hq⟩
  have BF := Blk.new w #[.int .i64 em, .slice ag gs.length ca, .slice ap ps.length cb] 25 rfl
  have B0 : Below w.heap.size w (w.alloc (.cells #[.int .i64 em, .slice ag gs.length ca, .slice ap ps.length cb] 25)) := (Below.refl _ w).alloc (Nat.le_refl _) _
  have HBY := fun W => beyond_any (.int .i64 em) ag ap gs.length ps.length ca cb W ⟨em, rfl⟩
  clear sg sp sq hg hp hq
  by_cases hbey : 2147483647 < gs.length + ps.length
  · simp only [decide_eq_true hbey] at HBY
    have HB : Hid _ := HBY
    have HB0 : Hid (Below w.heap.size w (w.alloc (.cells #[.int .i64 em, .slice ag gs.length ca, .slice ap ps.length cb] 25))) := B0
    clear HBY BF B0 hbey
    generalize gs.length = n at *
    generalize ps.length = q at *
    generalize qs.length = r at *
    go_enter Try.func3, Try.ntmps3
    go_wp2_with (go_at_call 7; refine (HB.out _).mono ?_; rintro e w1 ⟨rfl, hb⟩)
    go_ret
    exact ⟨rfl, HB0.out.trans (hb.mono HB0.out.size)⟩
  · simp only [decide_eq_false hbey] at HBY
    have HB : Hid _ := HBY
    have HB0 : Hid (Below w.heap.size w (w.alloc (.cells #[.int .i64 em, .slice ag gs.length ca, .slice ap ps.length cb] 25))) := B0
    have HLE : Hid (gs.length ≤ 2147483647 ∧ ps.length ≤ 2147483647) := ⟨by omega, by omega⟩
    have HLT : Hid (∀ W, Below w.heap.size w W → Calls Try.prog 9 #[.agg #[.int .i64 em, .slice ag gs.length ca, .slice ap ps.length cb]] W fun e w' => ∃ bg c bp d,
      e = .returned (.agg #[.int .i64 em, .slice (some ⟨bg, 0, none⟩) gs.length c, .slice (some ⟨bp, 0, none⟩) ps.length d]) ∧
      w'.ownsRow W.heap.size 45 4 (.slice (some ⟨bg, 0, none⟩) (gs.length + 1) c) (gs.length + 1) (gs.flatMap cg ++ cg (-77, 0, 0, 0)) ∧
      w'.ownsRow W.heap.size 52 5 (.slice (some ⟨bp, 0, none⟩) (ps.length + 1) d) (ps.length + 1) (ps.flatMap cp ++ cp (-77, 0, false, 0, 0)) ∧ Below W.heap.size W w') := hid fun W h => lent_any em gs ps ag ap ca cb W HLE.out.1 HLE.out.2 (HS.out.1.below h) (HS.out.2.1.below h)
    have HNW : Hid (∀ W B bg c bp d, W.ownsRow B 45 4 (.slice (some ⟨bg, 0, none⟩) (gs.length + 1) c) (gs.length + 1) (gs.flatMap cg ++ cg (-77, 0, 0, 0)) → W.ownsRow B 52 5 (.slice (some ⟨bp, 0, none⟩) (ps.length + 1) d) (ps.length + 1) (ps.flatMap cp ++ cp (-77, 0, false, 0, 0)) →
        Calls Try.prog 10 #[.agg #[.int .i64 em, .slice (some ⟨bg, 0, none⟩) gs.length c, .slice (some ⟨bp, 0, none⟩) ps.length d]] W fun e w' => Made W w' em gs ps e) := hid fun W B bg c bp d r1 r2 => by
      obtain ⟨_, _, A1, _⟩ := row_big r1
      obtain ⟨_, _, A2, _⟩ := row_big r2
      exact new_any em gs ps _ _ c d W HL.out.1 HL.out.2.1 (fun _ => ⟨bg, 0, rfl, A1.take⟩) (fun _ => ⟨bp, 0, rfl, A2.take⟩)
    have HRN : Hid (∀ W, Below w.heap.size w W → _) := hid fun W h => refnew_any em gs ps ag ap ca cb W HL.out.1 HL.out.2.1 (HS.out.1.below h) (HS.out.2.1.below h)
    have HST : Hid (∀ W B bg c bp d, Below w.heap.size w W → W.ownsRow B 45 4 (.slice (some ⟨bg, 0, none⟩) (gs.length + 1) c) (gs.length + 1) (gs.flatMap cg ++ cg (-77, 0, 0, 0)) → W.ownsRow B 52 5 (.slice (some ⟨bp, 0, none⟩) (ps.length + 1) d) (ps.length + 1) (ps.flatMap cp ++ cp (-77, 0, false, 0, 0)) →
        Calls Try.prog 12 #[.agg #[.int .i64 em, .slice (some ⟨bg, 0, none⟩) gs.length c, .slice (some ⟨bp, 0, none⟩) ps.length d], .agg #[.int .i64 em, .slice ag gs.length ca, .slice ap ps.length cb]] W fun e w' => e = .returned (.bool true) ∧ Only [bg, bp] W w') := hid fun W B bg c bp d h r1 r2 =>
      still_any em gs ps ag ap ca cb bg c bp d B W HLE.out.1 HLE.out.2 (HS.out.1.below h) (HS.out.2.1.below h) r1 r2
    have HAN : Hid (∀ W B C a d ag' ca' ap' cb', Below w.heap.size w W → C ≤ W.heap.size → Tab B C W a em gs ps → RT W d em gs ps ag' ca' ap' cb' → Calls Try.prog 13 #[.pointer (some ⟨a, 0, none⟩), .pointer (some ⟨d, 0, none⟩), .slice aa qs.length cc] W fun e w' => e = .returned (.bool true) ∧ Below W.heap.size W w') := hid fun W B C a d ag' ca' ap' cb' h hC hT hR =>
      answers_any B C a d em gs ps ag' ap' ca' cb' aa qs cc W hC hT hR (HS.out.2.2.below h) HL.out.2.2
    obtain ⟨n, hne⟩ : ∃ n, gs.length = n := ⟨_, rfl⟩
    obtain ⟨q, hqe⟩ : ∃ q, ps.length = q := ⟨_, rfl⟩
    obtain ⟨r, hre⟩ : ∃ r, qs.length = r := ⟨_, rfl⟩
    rw [hne, hqe] at HB HB0 HLT HNW HRN HST BF
    rw [hre] at HAN
    rw [hne, hqe, hre]
    clear HBY B0 hbey hne hqe hre
    go_enter Try.func3, Try.ntmps3
    go_wp2_with fail
    refine (HB.out _).mono ?_
    rintro e w1 ⟨rfl, hb⟩
    have HB1 : Hid (Below w.heap.size w w1) := HB0.out.trans (hb.mono HB0.out.size)
    have BF1 := BF.below hb
    clear hb BF HB HB0
    go_wp2_with fail
    refine (shown_any _).mono ?_
    rintro e w2 ⟨rfl, hb⟩
    have HB2 : Hid (Below w.heap.size w w2) := HB1.out.trans (hb.mono HB1.out.size)
    have BF2 := hid (BF1.below hb)
    have k0 : w2.cell? ⟨w.heap.size, 0, none⟩ = some (.int .i64 em) := BF2.out.cell 0
    have k1 : w2.cell? ⟨w.heap.size, 1, none⟩ = some (.slice ag n ca) := BF2.out.cell 1
    have k2 : w2.cell? ⟨w.heap.size, 2, none⟩ = some (.slice ap q cb) := BF2.out.cell 2
    clear hb BF1 HB1
    go_wp2_with fail
    refine (HLT.out _ HB2.out).mono ?_
    rintro e w3 ⟨bg, c, bp, d, rfl, r1, r2, hb⟩
    have HR1 := hid (r1.alloc (.cells #[.int .i64 em, .slice (some ⟨bg, 0, none⟩) n c, .slice (some ⟨bp, 0, none⟩) q d] 25))
    have HR2 := hid (r2.alloc (.cells #[.int .i64 em, .slice (some ⟨bg, 0, none⟩) n c, .slice (some ⟨bp, 0, none⟩) q d] 25))
    have HB3 := hid ((HB2.out.trans (hb.mono HB2.out.size)).alloc (HB2.out.trans (hb.mono HB2.out.size)).size (.cells #[.int .i64 em, .slice (some ⟨bg, 0, none⟩) n c, .slice (some ⟨bp, 0, none⟩) q d] 25))
    have BF3 := hid ((BF2.out.below hb).alloc (.cells #[.int .i64 em, .slice (some ⟨bg, 0, none⟩) n c, .slice (some ⟨bp, 0, none⟩) q d] 25))
    have BX3 := hid (Blk.new w3 #[.int .i64 em, .slice (some ⟨bg, 0, none⟩) n c, .slice (some ⟨bp, 0, none⟩) q d] 25 rfl)
    have HBL : Hid ((w.heap.size ≤ bg ∧ bg < w3.heap.size) ∧ (w.heap.size ≤ bp ∧ bp < w3.heap.size)) := hid ⟨⟨by have := (row_big r1).2.2.2; have := HB2.out.size; omega, (row_big r1).2.2.1.1⟩, ⟨by have := (row_big r2).2.2.2; have := HB2.out.size; omega, (row_big r2).2.2.1.1⟩⟩
    clear r1 r2 hb k0 k1 k2 BF2 HB2
    go_wp2_with fail
    obtain ⟨W3, hW3⟩ : ∃ W3, w3.alloc (.cells #[.int .i64 em, .slice (some ⟨bg, 0, none⟩) n c, .slice (some ⟨bp, 0, none⟩) q d] 25) = W3 := ⟨_, rfl⟩
    obtain ⟨b3, hb3⟩ : ∃ b3, w3.heap.size = b3 := ⟨_, rfl⟩
    rw [hW3] at HR1 HR2 HB3 BF3 BX3 ⊢
    rw [hb3] at BX3 HBL ⊢
    clear hW3 hb3
    refine (HNW.out _ _ _ _ _ _ HR1.out HR2.out).mono ?_
    rintro e w4 ⟨hwr, hok, hb⟩
    have HB4 : Hid (Below w.heap.size w w4) := hid (HB3.out.trans (hb.mono HB3.out.size))
    have BF4 := hid (BF3.out.below hb)
    have BX4 := hid (BX3.out.below hb)
    have HR14 := hid (row_below HR1.out hb)
    have HR24 := hid (row_below HR2.out hb)
    have HSZ : Hid (b3 < W3.heap.size ∧ W3.heap.size ≤ w4.heap.size) := hid ⟨BX3.out.lt, hb.size⟩
    have k0 : w4.cell? ⟨w.heap.size, 0, none⟩ = some (.int .i64 em) := BF4.out.cell 0
    have k1 : w4.cell? ⟨w.heap.size, 1, none⟩ = some (.slice ag n ca) := BF4.out.cell 1
    have k2 : w4.cell? ⟨w.heap.size, 2, none⟩ = some (.slice ap q cb) := BF4.out.cell 2
    clear hb BF3 BX3 HR1 HR2
    by_cases hv : verd em gs ps = 0
    · obtain ⟨a, rfl, hT⟩ := hok hv
      have HT4 := hid hT
      have HV := hid hv
      clear hwr hok hT hv
      go_wp2_with fail
      refine (HRN.out _ HB4.out).mono ?_
      rintro e w5 ⟨_, hok, hb⟩
      obtain ⟨t, ag', ca', ap', cb', rfl, hR, l1, l2, l3⟩ := hok HV.out
      have HR5 := hid hR
      have HB5 : Hid (Below w.heap.size w w5) := hid (HB4.out.trans (hb.mono HB4.out.size))
      have HT5 := hid (HT4.out.below hb)
      have BF5 := BF4.out.below hb
      have BX5 := BX4.out.below hb
      have HR15 := hid (row_below HR14.out hb)
      have HR25 := hid (row_below HR24.out hb)
      have HTL : Hid (w4.heap.size ≤ t ∧ (∀ b off, ag' = some ⟨b, off, none⟩ → w4.heap.size ≤ b) ∧ (∀ b off, ap' = some ⟨b, off, none⟩ → w4.heap.size ≤ b)) := hid ⟨l1, l2, l3⟩
      have x0 : w5.cell? ⟨w.heap.size, 0, none⟩ = some (.int .i64 em) := BF5.cell 0
      have x1 : w5.cell? ⟨w.heap.size, 1, none⟩ = some (.slice ag n ca) := BF5.cell 1
      have x2 : w5.cell? ⟨w.heap.size, 2, none⟩ = some (.slice ap q cb) := BF5.cell 2
      have y0 : w5.cell? ⟨b3, 0, none⟩ = some (.int .i64 em) := BX5.cell 0
      have y1 : w5.cell? ⟨b3, 1, none⟩ = some (.slice (some ⟨bg, 0, none⟩) n c) := BX5.cell 1
      have y2 : w5.cell? ⟨b3, 2, none⟩ = some (.slice (some ⟨bp, 0, none⟩) q d) := BX5.cell 2
      have HSZ5 := hid hb.size
      clear hok hR hb l1 l2 l3 k0 k1 k2 BF5 BX5
      go_wp2_with fail
      refine (HST.out _ _ _ _ _ _ HB5.out HR15.out HR25.out).mono ?_
      rintro e w6 ⟨rfl, ho⟩
      have HLB : Hid (∀ i ∈ [bg, bp], i < b3) := hid fun i hi => by
        simp only [List.mem_cons, List.not_mem_nil, or_false] at hi
        rcases hi with rfl | rfl
        · exact HBL.out.1.2
        · exact HBL.out.2.2
      have HLC : Hid (∀ i ∈ [bg, bp], w.heap.size ≤ i) := hid fun i hi => by
        simp only [List.mem_cons, List.not_mem_nil, or_false] at hi
        rcases hi with rfl | rfl
        · exact HBL.out.1.1
        · exact HBL.out.2.1
      have HT6 := hid (HT5.out.keep ho (fun i hi => by have := HLB.out i hi; have := HSZ.out; omega))
      have HR6 := hid (HR5.out.keep ho HLB.out (by have := HTL.out.1; have := HSZ.out; omega) (fun b off e => by have := HTL.out.2.1 b off e; have := HSZ.out; omega) (fun b off e => by have := HTL.out.2.2 b off e; have := HSZ.out; omega))
      have HB6 : Hid (Below w.heap.size w w6) := hid (HB5.out.trans (ho.toBelow HB5.out.size HLC.out))
      have HSZ6 : Hid (w4.heap.size ≤ w6.heap.size) := hid (by have := HSZ5.out; have := ho.size; omega)
      clear ho x0 x1 x2 y0 y1 y2
      go_wp2_with fail
      refine (HAN.out _ _ _ _ _ _ _ _ _ HB6.out HSZ6.out HT6.out HR6.out).mono ?_
      rintro e w7 ⟨rfl, hb⟩
      have HB7 : Hid (Below w.heap.size w w7) := hid (HB6.out.trans (hb.mono HB6.out.size))
      have HT7 := hid (HT6.out.below hb)
      have HR7 := hid (HR6.out.below hb)
      have HSZ7 : Hid (w4.heap.size ≤ w7.heap.size) := hid (Nat.le_trans HSZ6.out hb.size)
      clear hb
      go_wp2_with fail
      refine (HAN.out _ _ _ _ _ _ _ _ _ HB7.out HSZ7.out HT7.out HR7.out).mono ?_
      rintro e w8 ⟨rfl, hb⟩
      have HB8 : Hid (Below w.heap.size w w8) := hid (HB7.out.trans (hb.mono HB7.out.size))
      clear hb
      go_wp2_with fail
      go_ret
      exact ⟨rfl, HB8.out⟩
    · have he := hwr hv
      subst he
      have HV := hid hv
      have hv' : (verd em gs ps == 0) = false := by simpa using hv
      clear hwr hok
      go_wp2_with fail
      refine (HRN.out _ HB4.out).mono ?_
      rintro e w5 ⟨hwr, _, hb⟩
      obtain rfl := hwr HV.out
      have HB5 : Hid (Below w.heap.size w w5) := hid (HB4.out.trans (hb.mono HB4.out.size))
      have BF5 := BF4.out.below hb
      have BX5 := BX4.out.below hb
      have HR15 := hid (row_below HR14.out hb)
      have HR25 := hid (row_below HR24.out hb)
      have x0 : w5.cell? ⟨w.heap.size, 0, none⟩ = some (.int .i64 em) := BF5.cell 0
      have x1 : w5.cell? ⟨w.heap.size, 1, none⟩ = some (.slice ag n ca) := BF5.cell 1
      have x2 : w5.cell? ⟨w.heap.size, 2, none⟩ = some (.slice ap q cb) := BF5.cell 2
      have y0 : w5.cell? ⟨b3, 0, none⟩ = some (.int .i64 em) := BX5.cell 0
      have y1 : w5.cell? ⟨b3, 1, none⟩ = some (.slice (some ⟨bg, 0, none⟩) n c) := BX5.cell 1
      have y2 : w5.cell? ⟨b3, 2, none⟩ = some (.slice (some ⟨bp, 0, none⟩) q d) := BX5.cell 2
      clear hwr hb k0 k1 k2 BF5 BX5 hv
      generalize verd em gs ps = v at *
      go_wp2_with fail
      refine (HST.out _ _ _ _ _ _ HB5.out HR15.out HR25.out).mono ?_
      rintro e w6 ⟨rfl, ho⟩
      have HB6 : Hid (Below w.heap.size w w6) := hid (HB5.out.trans (ho.toBelow HB5.out.size (fun i hi => by
        simp only [List.mem_cons, List.not_mem_nil, or_false] at hi
        rcases hi with rfl | rfl
        · exact HBL.out.1.1
        · exact HBL.out.2.1)))
      clear ho x0 x1 x2 y0 y1 y2
      go_wp2_with fail
      go_ret
      exact ⟨rfl, HB6.out⟩
end Go.Proofs.Ytnplplhhldpgmaa
