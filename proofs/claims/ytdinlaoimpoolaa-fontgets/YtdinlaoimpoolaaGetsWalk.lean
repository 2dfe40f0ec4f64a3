/- FontGets' walk. -/
import Derived.Test.YtdinlaoimpoolaaGetsOut
namespace Go.Proofs.Ytdinlaoimpoolaa
open Go.RowKit

set_option maxRecDepth 100000 in
set_option maxHeartbeats 8000000 in
theorem gets_no (b : ByteArray) (s c : Int) (w : World) (h : s < 0 ∨ 0 ≤ s ∧ c < 0) :
    Calls Try.prog 4 #[.string b, .int .i64 s, .int .i64 c] w fun e w' => e = .returned (.bool true) ∧ Below w.heap.size w w' := by
  have HN := hid (fun X => new_no s c X h)
  have HR := hid (fun X => newR_no s c X h)
  clear h
  go_enter Try.func4, Try.ntmps4
  go_wp2_with fail
  refine (shown_any w).mono ?_
  rintro e w1 ⟨rfl, hb1⟩
  have HB1 := hid hb1
  clear hb1
  go_wp2_with fail
  refine (HN.out w1).mono ?_
  rintro e w2 ⟨rfl, rfl⟩
  go_wp2_with fail
  refine (HR.out w2).mono ?_
  rintro e w3 ⟨rfl, rfl⟩
  go_wp2_with fail
  go_ret
  exact ⟨rfl, HB1.out⟩

set_option maxRecDepth 100000 in
set_option maxHeartbeats 8000000 in
theorem gets_yes (b : ByteArray) (s c : Int) (w : World) (h0 : 0 ≤ s) (h1 : 0 ≤ c) (h2 : s ≤ 9223372036854775807) (h3 : c ≤ 9223372036854775807) (hsz : b.size ≤ 9223372036854775807) :
    Calls Try.prog 4 #[.string b, .int .i64 s, .int .i64 c] w fun e w' => e = .returned (.bool true) ∧ Below w.heap.size w w' := by
  have HN := hid (fun X => new_yes s c X h0 h1)
  have HR := hid (fun X => newR_yes s c X h0 h1)
  obtain ⟨em, gs, ps, kk, aa, m', hlen, hget, hgetR⟩ := outs b ⟨s, c, 0, 0, 0, 0⟩ ⟨Int.le_refl 0, h0, h2, Int.le_refl 0, Int.le_refl 0, h1, h3⟩ hsz
  have HLEN := hid hlen
  have HGET := hid hget
  have HGETR := hid hgetR
  obtain ⟨M0, hM0⟩ : ∃ M0 : M, M.mk s c 0 0 0 0 = M0 := ⟨_, rfl⟩
  rw [hM0] at HGET HGETR
  simp only [hM0] at HN HR
  clear hlen hget hgetR h0 h1 h2 h3 hsz hM0
  obtain ⟨n, hn⟩ : ∃ n, gs.length = n := ⟨_, rfl⟩
  obtain ⟨m, hm⟩ : ∃ m, ps.length = m := ⟨_, rfl⟩
  have HNM := hid (And.intro hn hm)
  clear hn hm
  go_enter Try.func4, Try.ntmps4
  go_wp2_with fail
  refine (shown_any w).mono ?_
  rintro e w1 ⟨rfl, hb1⟩
  have HB1 := hid hb1
  clear hb1
  go_wp2_with fail
  refine (HN.out w1).mono ?_
  rintro e w2 ⟨rfl, rfl⟩
  go_wp2_with fail
  refine (HR.out _).mono ?_
  rintro e w3 ⟨rfl, rfl⟩
  obtain ⟨mb, hmb⟩ : ∃ mb, w1.heap.size = mb := ⟨_, rfl⟩
  obtain ⟨nb, hnb⟩ : ∃ nb, (w1.alloc (.cells M0.cells.toArray 72)).heap.size = nb := ⟨_, rfl⟩
  have HMN : Hid (mb < nb ∧ w.heap.size ≤ mb) := hid (by have := HB1.out.size; rw [← hmb, ← hnb]; simp; omega)
  have HM := hid ((Blk.new w1 M0.cells.toArray 72 hmb).alloc (.cells M0.rcells.toArray 74))
  have HR2 := hid (Blk.new (w1.alloc (.cells M0.cells.toArray 72)) M0.rcells.toArray 74 hnb)
  have HB2 : Hid (Below w.heap.size w ((w1.alloc (.cells M0.cells.toArray 72)).alloc (.cells M0.rcells.toArray 74))) := hid ((HB1.out.alloc HB1.out.size _).alloc (by have := HB1.out.size; simp; omega) _)
  obtain ⟨W2, hW2⟩ : ∃ W2, (w1.alloc (.cells M0.cells.toArray 72)).alloc (.cells M0.rcells.toArray 74) = W2 := ⟨_, rfl⟩
  rw [hW2] at HM HR2 HB2
  simp only [hW2, hmb, hnb]
  clear hW2 hnb hmb HB1
  go_wp2_with fail
  refine (HGET.out W2 mb HM.out).mono ?_
  rintro e W3 ⟨ho3, hm3, ag, ca, ap, cb, rfl, hx3⟩
  have HB3 : Hid (Below w.heap.size w W3) := hid (HB2.out.trans (ho3.toBelow HB2.out.size (by intro q hq; rw [List.mem_singleton.1 hq]; exact HMN.out.2)))
  have HM3 := hid hm3
  have HR3 := hid (ho3.blk HR2.out (by rw [List.mem_singleton]; have := HMN.out; omega))
  have HX3 := hid hx3
  have HLO : Hid (w.heap.size ≤ W2.heap.size ∧ W2.heap.size ≤ W3.heap.size) := hid ⟨HB2.out.size, ho3.size⟩
  clear ho3 hm3 hx3 HB2 HM HR2
  go_wp2_with fail
  obtain ⟨HF4, HQ4⟩ := Fs.laid HX3.out em kk aa
  have HF4 := hid HF4
  have HQ4 := hid HQ4
  have HB4 := hid (HB3.out.trans (HQ4.out.mono HB3.out.size))
  have HM4 := hid (HM3.out.below HQ4.out)
  have HR4 := hid (HR3.out.below HQ4.out)
  have HL4 := hid HQ4.out.size
  obtain ⟨x3, hx3⟩ : ∃ x3, W3.heap.size = x3 := ⟨_, rfl⟩
  obtain ⟨lo, hlo⟩ : ∃ lo, W2.heap.size = lo := ⟨_, rfl⟩
  obtain ⟨W4, hW4⟩ : ∃ W4, ((W3.alloc (.cells #[.int .i64 em, .slice ag gs.length ca, .slice ap ps.length cb] 25)).alloc (.cells #[.int .i64 kk, .int .i64 aa] 44)) = W4 := ⟨_, rfl⟩
  rw [hW4] at HF4 HQ4 HB4 HM4 HR4 HL4
  rw [hx3, hlo] at HF4 HLO
  rw [hx3] at HL4
  simp only [hW4, hx3]
  clear HB3 HM3 HR3 HX3 HQ4 hx3 hlo hW4
  refine (HGETR.out W4 nb HR4.out).mono ?_
  rintro e W5 ⟨ho5, hn5, bg, cc, bp, cd, rfl, hy5⟩
  have HB5 : Hid (Below w.heap.size w W5) := hid (HB4.out.trans (ho5.toBelow HB4.out.size (by intro q hq; rw [List.mem_singleton.1 hq]; have := HMN.out; omega)))
  have HM5 := hid (ho5.blk HM4.out (by rw [List.mem_singleton]; have := HMN.out; omega))
  have HR5 := hid hn5
  have HX5 := hid (HF4.out.only ho5 HR4.out (by decide) (by decide) (by decide) (by decide))
  have HY5 := hid hy5
  have HL5 := hid ho5.size
  clear ho5 hn5 hy5 HB4 HM4 HR4 HF4
  obtain ⟨HG6, HQ6⟩ := Fs.laid HY5.out em kk aa
  have HG6 := hid HG6
  have HQ6 := hid HQ6
  have HB6 := hid (HB5.out.trans (HQ6.out.mono HB5.out.size))
  have HM6 := hid (HM5.out.below HQ6.out)
  have HR6 := hid (HR5.out.below HQ6.out)
  have HX6 := hid (HX5.out.below HQ6.out)
  clear HX5 HB5 HM5 HR5 HY5 HQ6
  have k0 : ((W5.alloc (.cells #[.int .i64 em, .slice bg gs.length cc, .slice bp ps.length cd] 25)).alloc (.cells #[.int .i64 kk, .int .i64 aa] 44)).cell? ⟨x3, 0, none⟩ = some (.int .i64 em) := HX6.out.f.cell 0
  have k1 : ((W5.alloc (.cells #[.int .i64 em, .slice bg gs.length cc, .slice bp ps.length cd] 25)).alloc (.cells #[.int .i64 kk, .int .i64 aa] 44)).cell? ⟨x3, 1, none⟩ = some (.slice ag gs.length ca) := HX6.out.f.cell 1
  have k2 : ((W5.alloc (.cells #[.int .i64 em, .slice bg gs.length cc, .slice bp ps.length cd] 25)).alloc (.cells #[.int .i64 kk, .int .i64 aa] 44)).cell? ⟨x3, 2, none⟩ = some (.slice ap ps.length cb) := HX6.out.f.cell 2
  go_wp2_with fail
  clear k0 k1 k2
  obtain ⟨y5, hy5⟩ : ∃ y5, W5.heap.size = y5 := ⟨_, rfl⟩
  obtain ⟨ylo, hylo⟩ : ∃ ylo, W4.heap.size = ylo := ⟨_, rfl⟩
  obtain ⟨W6, hW6⟩ : ∃ W6, ((W5.alloc (.cells #[.int .i64 em, .slice bg gs.length cc, .slice bp ps.length cd] 25)).alloc (.cells #[.int .i64 kk, .int .i64 aa] 44)) = W6 := ⟨_, rfl⟩
  rw [hW6] at HG6 HB6 HM6 HR6 HX6
  rw [hy5, hylo] at HG6 HL5
  rw [hylo] at HL4
  simp only [hW6, hy5]
  clear hW6 hy5 hylo
  refine (same_true em gs ps ag bg ap bp ca cc cb cd W6 (by have := HLEN.out; omega) (by have := HLEN.out; omega) HX6.out.r.sl.1 HX6.out.r.sl.2 HG6.out.r.sl.1 HG6.out.r.sl.2).mono ?_
  rintro e W7 ⟨rfl, hb7⟩
  have HB7 := hid (HB6.out.trans (hb7.mono HB6.out.size))
  have HM7 := hid (HM6.out.below hb7)
  have HR7 := hid (HR6.out.below hb7)
  have HX7 := hid (HX6.out.below hb7)
  have HG7 := hid (HG6.out.below hb7)
  clear hb7 HB6 HM6 HR6 HX6 HG6
  go_wp2_with fail
  refine (gauge_any m' mb nb W7 HM7.out HR7.out).mono ?_
  rintro e W8 ⟨rfl, rfl⟩
  have k0 : W8.cell? ⟨x3 + 1, 0, none⟩ = some (.int .i64 kk) := HX7.out.e.cell 0
  have k1 : W8.cell? ⟨x3 + 1, 1, none⟩ = some (.int .i64 aa) := HX7.out.e.cell 1
  have j0 : W8.cell? ⟨y5 + 1, 0, none⟩ = some (.int .i64 kk) := HG7.out.e.cell 0
  have j1 : W8.cell? ⟨y5 + 1, 1, none⟩ = some (.int .i64 aa) := HG7.out.e.cell 1
  have hne := neqF kk aa kk aa
  simp only [BEq.rfl, Bool.and_self, Bool.not_true] at hne
  clear HM7 HR7
  go_wp2_with fail
  clear k0 k1 j0 j1
  refine (HN.out W8).mono ?_
  rintro e W9 ⟨rfl, rfl⟩
  -- the third reading
  obtain ⟨kb, hkb⟩ : ∃ kb, W8.heap.size = kb := ⟨_, rfl⟩
  have HK9 := hid (Blk.new W8 M0.cells.toArray 72 hkb)
  have hb9 : Below W8.heap.size W8 (W8.alloc (.cells M0.cells.toArray 72)) := (Below.refl _ W8).alloc (Nat.le_refl _) _
  have HB9 := hid (HB7.out.trans (hb9.mono HB7.out.size))
  have HX9 := hid (HX7.out.below hb9)
  have HG9 := hid (HG7.out.below hb9)
  have HKW : Hid (w.heap.size ≤ kb) := hid (by rw [← hkb]; exact HB7.out.size)
  have HYK : Hid (y5 < kb) := hid (by rw [← hkb]; exact HG7.out.f.lt)
  obtain ⟨W9, hW9⟩ : ∃ W9, W8.alloc (.cells M0.cells.toArray 72) = W9 := ⟨_, rfl⟩
  rw [hW9] at HK9 HB9 HX9 HG9
  have HKS : Hid (kb ≤ W9.heap.size) := hid (by rw [← hW9, ← hkb]; simp)
  simp only [hW9, hkb]
  clear hb9 hW9 hkb HB7 HX7 HG7
  go_wp2_with fail
  refine (HGET.out W9 kb HK9.out).mono ?_
  rintro e W10 ⟨hoa, hma, dg, ce, dp, cf, rfl, hza⟩
  have HBa : Hid (Below w.heap.size w W10) := hid (HB9.out.trans (hoa.toBelow HB9.out.size (by intro q hq; rw [List.mem_singleton.1 hq]; exact HKW.out)))
  have HXa := hid (HX9.out.only hoa HK9.out (by decide) (by decide) (by decide) (by decide))
  have HGa := hid (HG9.out.only hoa HK9.out (by decide) (by decide) (by decide) (by decide))
  have HZa := hid hza
  have HLa := hid hoa.size
  clear hoa hma hza HB9 HX9 HG9 HK9
  obtain ⟨HZ, HQ⟩ := Fs.laid HZa.out em kk aa
  have HZb := hid HZ
  have HBb := hid (HBa.out.trans (HQ.mono HBa.out.size))
  have HXb := hid (HXa.out.below HQ)
  have HGb := hid (HGa.out.below HQ)
  clear HZ HQ HBa HXa HGa HZa
  have k0 : ((W10.alloc (.cells #[.int .i64 em, .slice dg gs.length ce, .slice dp ps.length cf] 25)).alloc (.cells #[.int .i64 kk, .int .i64 aa] 44)).cell? ⟨x3, 0, none⟩ = some (.int .i64 em) := HXb.out.f.cell 0
  have k1 : ((W10.alloc (.cells #[.int .i64 em, .slice dg gs.length ce, .slice dp ps.length cf] 25)).alloc (.cells #[.int .i64 kk, .int .i64 aa] 44)).cell? ⟨x3, 1, none⟩ = some (.slice ag gs.length ca) := HXb.out.f.cell 1
  have k2 : ((W10.alloc (.cells #[.int .i64 em, .slice dg gs.length ce, .slice dp ps.length cf] 25)).alloc (.cells #[.int .i64 kk, .int .i64 aa] 44)).cell? ⟨x3, 2, none⟩ = some (.slice ap ps.length cb) := HXb.out.f.cell 2
  go_wp2_with fail
  clear k0 k1 k2
  obtain ⟨z, hz⟩ : ∃ z, W10.heap.size = z := ⟨_, rfl⟩
  obtain ⟨zlo, hzlo⟩ : ∃ zlo, W9.heap.size = zlo := ⟨_, rfl⟩
  obtain ⟨W11, hW11⟩ : ∃ W11, ((W10.alloc (.cells #[.int .i64 em, .slice dg gs.length ce, .slice dp ps.length cf] 25)).alloc (.cells #[.int .i64 kk, .int .i64 aa] 44)) = W11 := ⟨_, rfl⟩
  rw [hW11] at HZb HBb HXb HGb
  rw [hz, hzlo] at HZb HLa
  rw [hzlo] at HKS
  simp only [hW11, hz]
  clear hW11 hz hzlo
  have HLO11 : Hid (lo ≤ W11.heap.size) := hid (by have := HBb.out.size; have := HXb.out.f.lt; have := HLO.out; omega)
  refine (spoil_any (Lx ag gs.length ca ap ps.length cb) em ag ap gs.length ps.length ca cb lo _ _ W11 HLEN.out.1 HLEN.out.2 HLO11.out HXb.out.r.1 HXb.out.r.2
    (fun q hq => by unfold Lx; rw [List.mem_append, Option.mem_toList, Option.mem_toList]; exact .inl hq) (fun q hq => by unfold Lx; rw [List.mem_append, Option.mem_toList, Option.mem_toList]; exact .inr hq)).mono ?_
  rintro e W12 ⟨rfl, hoc⟩
  have HBc : Hid (Below w.heap.size w W12) := hid (HBb.out.trans (hoc.toBelow HBb.out.size (fun q hq => Nat.le_trans HLO.out.1 (HXb.out.b q hq).1)))
  have HGc := hid (HGb.out.apart HXb.out.r HXb.out.b hoc (.inl (by have := HL4.out; omega)))
  have HZc := hid (HZb.out.apart HXb.out.r HXb.out.b hoc (.inl (by have := HL4.out; have := HL5.out; have := HYK.out; have := HKS.out; omega)))
  clear hoc HBb HGb HZb HXb
  -- like the reference's
  have k0 : W12.cell? ⟨z, 0, none⟩ = some (.int .i64 em) := HZc.out.f.cell 0
  have k1 : W12.cell? ⟨z, 1, none⟩ = some (.slice dg gs.length ce) := HZc.out.f.cell 1
  have k2 : W12.cell? ⟨z, 2, none⟩ = some (.slice dp ps.length cf) := HZc.out.f.cell 2
  have j0 : W12.cell? ⟨y5, 0, none⟩ = some (.int .i64 em) := HGc.out.f.cell 0
  have j1 : W12.cell? ⟨y5, 1, none⟩ = some (.slice bg gs.length cc) := HGc.out.f.cell 1
  have j2 : W12.cell? ⟨y5, 2, none⟩ = some (.slice bp ps.length cd) := HGc.out.f.cell 2
  go_wp2_with fail
  clear k0 k1 k2 j0 j1 j2
  refine (same_true em gs ps dg bg dp bp ce cc cf cd W12 (by have := HLEN.out; omega) (by have := HLEN.out; omega) HZc.out.r.sl.1 HZc.out.r.sl.2 HGc.out.r.sl.1 HGc.out.r.sl.2).mono ?_
  rintro e W13 ⟨rfl, hbd⟩
  have HBd := hid (HBc.out.trans (hbd.mono HBc.out.size))
  have HZd := hid (HZc.out.below hbd)
  have HGd := hid (HGc.out.below hbd)
  clear hbd HBc HZc HGc
  have k0 : W13.cell? ⟨z, 0, none⟩ = some (.int .i64 em) := HZd.out.f.cell 0
  have k1 : W13.cell? ⟨z, 1, none⟩ = some (.slice dg gs.length ce) := HZd.out.f.cell 1
  have k2 : W13.cell? ⟨z, 2, none⟩ = some (.slice dp ps.length cf) := HZd.out.f.cell 2
  go_wp2_with fail
  clear k0 k1 k2
  have HLO13 : Hid (zlo ≤ W13.heap.size) := hid (by have := HZd.out.f.lt; have := HLa.out; omega)
  refine (spoil_any (Lx dg gs.length ce dp ps.length cf) em dg dp gs.length ps.length ce cf zlo _ _ W13 HLEN.out.1 HLEN.out.2 HLO13.out HZd.out.r.1 HZd.out.r.2
    (fun q hq => by unfold Lx; rw [List.mem_append, Option.mem_toList, Option.mem_toList]; exact .inl hq) (fun q hq => by unfold Lx; rw [List.mem_append, Option.mem_toList, Option.mem_toList]; exact .inr hq)).mono ?_
  rintro e W14 ⟨rfl, hoe⟩
  have HBe : Hid (Below w.heap.size w W14) := hid (HBd.out.trans (hoe.toBelow HBd.out.size (fun q hq => Nat.le_trans (by have := HKW.out; have := HKS.out; omega) (HZd.out.b q hq).1)))
  have HGe := hid (HGd.out.apart HZd.out.r HZd.out.b hoe (.inr (by have := HYK.out; have := HKS.out; omega)))
  clear hoe HBd HGd HZd
  go_wp2_with fail
  refine (HN.out W14).mono ?_
  rintro e W15 ⟨rfl, rfl⟩
  obtain ⟨lb, hlb⟩ : ∃ lb, W14.heap.size = lb := ⟨_, rfl⟩
  have HK9 := hid (Blk.new W14 M0.cells.toArray 72 hlb)
  have hb9 : Below W14.heap.size W14 (W14.alloc (.cells M0.cells.toArray 72)) := (Below.refl _ W14).alloc (Nat.le_refl _) _
  have HB9 := hid (HBe.out.trans (hb9.mono HBe.out.size))
  have HG9 := hid (HGe.out.below hb9)
  have HLW : Hid (w.heap.size ≤ lb) := hid (by rw [← hlb]; exact HBe.out.size)
  obtain ⟨W15, hW15⟩ : ∃ W15, W14.alloc (.cells M0.cells.toArray 72) = W15 := ⟨_, rfl⟩
  rw [hW15] at HK9 HB9 HG9
  simp only [hW15, hlb]
  clear hb9 hW15 hlb HBe HGe
  go_wp2_with fail
  refine (HGET.out W15 lb HK9.out).mono ?_
  rintro e W16 ⟨hoa, hma, fg, ch, fp, ci, rfl, hva⟩
  have HBa : Hid (Below w.heap.size w W16) := hid (HB9.out.trans (hoa.toBelow HB9.out.size (by intro q hq; rw [List.mem_singleton.1 hq]; exact HLW.out)))
  have HGa := hid (HG9.out.only hoa HK9.out (by decide) (by decide) (by decide) (by decide))
  have HVa := hid hva
  clear hoa hma hva HB9 HG9 HK9
  obtain ⟨HV, HQ⟩ := Fs.laid HVa.out em kk aa
  have HVb := hid HV
  have HBb := hid (HBa.out.trans (HQ.mono HBa.out.size))
  have HGb := hid (HGa.out.below HQ)
  clear HV HQ HBa HGa HVa
  have k0 : ((W16.alloc (.cells #[.int .i64 em, .slice fg gs.length ch, .slice fp ps.length ci] 25)).alloc (.cells #[.int .i64 kk, .int .i64 aa] 44)).cell? ⟨y5, 0, none⟩ = some (.int .i64 em) := HGb.out.f.cell 0
  have k1 : ((W16.alloc (.cells #[.int .i64 em, .slice fg gs.length ch, .slice fp ps.length ci] 25)).alloc (.cells #[.int .i64 kk, .int .i64 aa] 44)).cell? ⟨y5, 1, none⟩ = some (.slice bg gs.length cc) := HGb.out.f.cell 1
  have k2 : ((W16.alloc (.cells #[.int .i64 em, .slice fg gs.length ch, .slice fp ps.length ci] 25)).alloc (.cells #[.int .i64 kk, .int .i64 aa] 44)).cell? ⟨y5, 2, none⟩ = some (.slice bp ps.length cd) := HGb.out.f.cell 2
  go_wp2_with fail
  clear k0 k1 k2
  obtain ⟨v, hv⟩ : ∃ v, W16.heap.size = v := ⟨_, rfl⟩
  obtain ⟨W17, hW17⟩ : ∃ W17, ((W16.alloc (.cells #[.int .i64 em, .slice fg gs.length ch, .slice fp ps.length ci] 25)).alloc (.cells #[.int .i64 kk, .int .i64 aa] 44)) = W17 := ⟨_, rfl⟩
  rw [hW17] at HVb HBb HGb
  rw [hv] at HVb
  simp only [hW17, hv]
  clear hW17 hv
  refine (same_true em gs ps fg bg fp bp ch cc ci cd W17 (by have := HLEN.out; omega) (by have := HLEN.out; omega) HVb.out.r.sl.1 HVb.out.r.sl.2 HGb.out.r.sl.1 HGb.out.r.sl.2).mono ?_
  rintro e W18 ⟨rfl, hbd⟩
  have HBd := hid (HBb.out.trans (hbd.mono HBb.out.size))
  have HVd := hid (HVb.out.below hbd)
  have HGd := hid (HGb.out.below hbd)
  clear hbd HBb HVb HGb
  have k0 : W18.cell? ⟨v + 1, 0, none⟩ = some (.int .i64 kk) := HVd.out.e.cell 0
  have k1 : W18.cell? ⟨v + 1, 1, none⟩ = some (.int .i64 aa) := HVd.out.e.cell 1
  have j0 : W18.cell? ⟨y5 + 1, 0, none⟩ = some (.int .i64 kk) := HGd.out.e.cell 0
  have j1 : W18.cell? ⟨y5 + 1, 1, none⟩ = some (.int .i64 aa) := HGd.out.e.cell 1
  have heq := eqlF kk aa kk aa
  simp only [BEq.rfl, Bool.and_self] at heq
  go_wp2_with fail
  go_ret
  exact ⟨rfl, HBd.out⟩
theorem gets_walk (b : ByteArray) (s c : Int) (w : World) (h2 : s ≤ 9223372036854775807) (h3 : c ≤ 9223372036854775807) (hsz : b.size ≤ 9223372036854775807) :
    Calls Try.prog 4 #[.string b, .int .i64 s, .int .i64 c] w fun e w' => e = .returned (.bool true) ∧ Below w.heap.size w w' := by
  by_cases h : 0 ≤ s ∧ 0 ≤ c
  · exact gets_yes b s c w h.1 h.2 h2 h3 hsz
  · exact gets_no b s c w (by omega)
end Go.Proofs.Ytdinlaoimpoolaa
