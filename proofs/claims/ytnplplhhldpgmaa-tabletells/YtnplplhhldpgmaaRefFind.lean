/- The reference's table: a glyph, a pair, the font out of it. -/
import Derived.Test.YtnplplhhldpgmaaRefGlyph
namespace Go.Proofs.Ytnplplhhldpgmaa
open Go.RowKit

/-- the reference's table lies at a -/
structure RT (W : World) (a : Nat) (em : Int) (gs : List Gl) (ps : List Pr) (ag : Option Addr) (ca : Nat) (ap : Option Addr) (cb : Nat) : Prop where
  blk : Blk W a [.int .i64 em, .slice ag gs.length ca, .slice ap ps.length cb] 67
  sg : Sl W ag gs.length (gs.flatMap cg)
  sp : Sl W ap ps.length (ps.flatMap cp)
theorem RT.below {W W' : World} {a : Nat} {em : Int} {gs : List Gl} {ps : List Pr} {ag ap : Option Addr} {ca cb : Nat} (h : RT W a em gs ps ag ca ap cb) (k : Below W.heap.size W W') : RT W' a em gs ps ag ca ap cb :=
  ⟨h.blk.below k, h.sg.below k, h.sp.below k⟩

theorem lookP_next {ps : List Pr} {k : Nat} {p : Pr} {l r : Int} (hp : ps[k]? = some p) (h : lookP (ps.take k) l r = none) (hr : ¬ (l = p.1 ∧ r = p.2.1)) : lookP (ps.take (k + 1)) l r = none := by
  unfold lookP at h ⊢
  rw [take_at hp, List.find?_append, h]
  simp [hr]
theorem lookP_hit {ps : List Pr} {k : Nat} {p : Pr} {l r : Int} (hp : ps[k]? = some p) (h : lookP (ps.take k) l r = none) (hl : l = p.1) (hr : r = p.2.1) : gotP ps l r = p ∧ hasP ps l r = true := by
  have e : lookP ps l r = some p := by
    unfold lookP at h ⊢
    conv => lhs; rw [← List.take_append_drop k ps]
    rw [List.find?_append, h, drop_at hp]
    simp [hl, hr]
  unfold gotP hasP
  rw [e]
  exact ⟨rfl, rfl⟩
theorem lookP_miss {ps : List Pr} {l r : Int} (h : lookP ps l r = none) : gotP ps l r = (0, 0, false, 0, 0) ∧ hasP ps l r = false := by
  unfold gotP hasP
  rw [h]
  exact ⟨rfl, rfl⟩
/-- five cells of a result written -/
abbrev put5 (W : World) (B : Nat) (a b : Int) (c : Bool) (d e : Int) : World := ((((W.setCell ⟨B, 0, none⟩ (.int .i64 a)).setCell ⟨B, 1, none⟩ (.int .i64 b)).setCell ⟨B, 2, none⟩ (.bool c)).setCell ⟨B, 3, none⟩ (.int .i64 d)).setCell ⟨B, 4, none⟩ (.int .i64 e)
theorem put5_blk {W : World} {B : Nat} (hR : Blk W B [.int .i64 0, .int .i64 0, .bool false, .int .i64 0, .int .i64 0] 52) (a b : Int) (c : Bool) (d e : Int) : Blk (put5 W B a b c d e) B [.int .i64 a, .int .i64 b, .bool c, .int .i64 d, .int .i64 e] 52 :=
  ((((hR.set 0 (.int .i64 a)).set 1 (.int .i64 b)).set 2 (.bool c)).set 3 (.int .i64 d)).set 4 (.int .i64 e)
theorem put5_below {w W : World} {B n : Nat} (h : Below n w W) (hB : n ≤ B) (a b : Int) (c : Bool) (d e : Int) : Below n w (put5 W B a b c d e) :=
  ((((h.setCell (p := ⟨B, 0, none⟩) hB _).setCell (p := ⟨B, 1, none⟩) hB _).setCell (p := ⟨B, 2, none⟩) hB _).setCell (p := ⟨B, 3, none⟩) hB _).setCell (p := ⟨B, 4, none⟩) hB _
theorem results26 {W : World} {B : Nat} {a b : Int} {c : Bool} {d e : Int} {t : Bool} (hR : Blk W B [.int .i64 a, .int .i64 b, .bool c, .int .i64 d, .int .i64 e] 52) {tmps : Array Value} (h4 : tmps[6]? = some (.pointer (some ⟨B, 0, none⟩))) (h5 : tmps[7]? = some (.bool t)) :
    (results Try.f26 tmps).run Try.prog W = .ok (.tuple #[.agg #[.int .i64 a, .int .i64 b, .bool c, .int .i64 d, .int .i64 e], .bool t]) W := by
  have m0 : W.cell? ⟨B, 0, none⟩ = some (.int .i64 a) := hR.cell 0
  have m1 : W.cell? ⟨B, 1, none⟩ = some (.int .i64 b) := hR.cell 1
  have m2 : W.cell? ⟨B, 2, none⟩ = some (.bool c) := hR.cell 2
  have m3 : W.cell? ⟨B, 3, none⟩ = some (.int .i64 d) := hR.cell 3
  have m4 : W.cell? ⟨B, 4, none⟩ = some (.int .i64 e) := hR.cell 4
  simp [results, Try.results26, go_sem, h4, h5, m0, m1, m2, m3, m4]
theorem results25 {W : World} {B : Nat} {a b c d : Int} {t : Bool} (hR : Blk W B [.int .i64 a, .int .i64 b, .int .i64 c, .int .i64 d] 45) {tmps : Array Value} (h4 : tmps[4]? = some (.pointer (some ⟨B, 0, none⟩))) (h5 : tmps[5]? = some (.bool t)) :
    (results Try.f25 tmps).run Try.prog W = .ok (.tuple #[.agg #[.int .i64 a, .int .i64 b, .int .i64 c, .int .i64 d], .bool t]) W := by
  have m0 : W.cell? ⟨B, 0, none⟩ = some (.int .i64 a) := hR.cell 0
  have m1 : W.cell? ⟨B, 1, none⟩ = some (.int .i64 b) := hR.cell 1
  have m2 : W.cell? ⟨B, 2, none⟩ = some (.int .i64 c) := hR.cell 2
  have m3 : W.cell? ⟨B, 3, none⟩ = some (.int .i64 d) := hR.cell 3
  simp [results, Try.results25, go_sem, h4, h5, m0, m1, m2, m3]

set_option maxRecDepth 100000 in
set_option maxHeartbeats 4000000 in
theorem refpair_any {w : World} {a : Nat} {em : Int} {gs : List Gl} {ps : List Pr} {ag ap : Option Addr} {ca cb : Nat} (h : RT w a em gs ps ag ca ap cb) (hp : ps.length ≤ 9223372036854775807) (l r : Int) :
    Calls Try.prog 26 #[.pointer (some ⟨a, 0, none⟩), .int .i64 l, .int .i64 r] w fun e w' => e = .returned (.tuple #[.agg (cp (gotP ps l r)).toArray, .bool (hasP ps l r)]) ∧ Below w.heap.size w w' := by
  have HS := hid h.sp
  have BT := h.blk
  obtain ⟨n, hne⟩ : ∃ n, ps.length = n := ⟨_, rfl⟩
  obtain ⟨n0, hne0⟩ : ∃ n, gs.length = n := ⟨_, rfl⟩
  have HN := hid hne
  rw [hne] at hp BT
  rw [hne0] at BT
  have hgi : (n : Int) ≤ 9223372036854775807 := by omega
  clear h hne hne0
  have HT := hid BT
  have BR := Blk.new w #[.int .i64 0, .int .i64 0, .bool false, .int .i64 0, .int .i64 0] 52 rfl
  have B0 : Below w.heap.size w (w.alloc (.cells #[.int .i64 0, .int .i64 0, .bool false, .int .i64 0, .int .i64 0] 52)) := (Below.refl _ w).alloc (Nat.le_refl _) _
  clear BT
  go_enter Try.func26, Try.ntmps26
  go_wp2_with fail
  obtain ⟨W, hW⟩ : ∃ W, w.alloc (.cells #[.int .i64 0, .int .i64 0, .bool false, .int .i64 0, .int .i64 0] 52) = W := ⟨_, rfl⟩
  rw [hW] at BR B0 ⊢
  clear hW
  have HB := hid B0
  have HR := hid BR
  clear BR B0
  go_loopw [8] (fun vi wr => ∃ k : Nat, vi = .int .i64 k ∧ k ≤ n ∧ lookP (ps.take k) l r = none ∧ Below w.heap.size w wr ∧ Blk wr w.heap.size [.int .i64 0, .int .i64 0, .bool false, .int .i64 0, .int .i64 0] 52) (fun vi _ => n - (RowKit.intOf vi).toNat)
  case atStart => exact ⟨0, rfl, by omega, rfl, HB.out, HR.out⟩
  case round =>
    obtain ⟨k, rfl, hk, hlk, hb, hr⟩ := hrel
    have HLK := hid hlk
    have HB1 := hid hb
    have k2 : wr.cell? ⟨a, 2, none⟩ = some (.slice ap n cb) := (HT.out.below hb).cell 2
    clear hlk hb HB HR
    by_cases hlt : k < n
    · obtain ⟨p, hpk⟩ := some_at (xs := ps) (i := k) (by rw [HN.out]; exact hlt)
      obtain ⟨b, off, rfl, hbl, hga⟩ := HS.out.pair hpk
      obtain ⟨c0, c1, c2, c3, c4⟩ := hga.below HB1.out hbl
      have HPK := hid hpk
      have hli : (k : Int) < (n : Int) := by omega
      have hl0 : (0 : Int) ≤ (k : Int) := by omega
      obtain ⟨p0, p1, p2, p3, p4⟩ := p
      simp only at c0 c1 c2 c3 c4
      have HR2 := hid (hr.alloc (.cells #[.int .i64 p0, .int .i64 p1, .bool p2, .int .i64 p3, .int .i64 p4] 52))
      have HB2 : Hid (Below w.heap.size w (wr.alloc (.cells #[.int .i64 p0, .int .i64 p1, .bool p2, .int .i64 p3, .int .i64 p4] 52))) := hid (HB1.out.alloc HB1.out.size _)
      have z0 : (wr.alloc (.cells #[.int .i64 p0, .int .i64 p1, .bool p2, .int .i64 p3, .int .i64 p4] 52)).cell? ⟨w.heap.size, 0, none⟩ = some (.int .i64 0) := HR2.out.cell 0
      have z1 : (wr.alloc (.cells #[.int .i64 p0, .int .i64 p1, .bool p2, .int .i64 p3, .int .i64 p4] 52)).cell? ⟨w.heap.size, 1, none⟩ = some (.int .i64 0) := HR2.out.cell 1
      have z2 : (wr.alloc (.cells #[.int .i64 p0, .int .i64 p1, .bool p2, .int .i64 p3, .int .i64 p4] 52)).cell? ⟨w.heap.size, 2, none⟩ = some (.bool false) := HR2.out.cell 2
      have z3 : (wr.alloc (.cells #[.int .i64 p0, .int .i64 p1, .bool p2, .int .i64 p3, .int .i64 p4] 52)).cell? ⟨w.heap.size, 3, none⟩ = some (.int .i64 0) := HR2.out.cell 3
      have z4 : (wr.alloc (.cells #[.int .i64 p0, .int .i64 p1, .bool p2, .int .i64 p3, .int .i64 p4] 52)).cell? ⟨w.heap.size, 4, none⟩ = some (.int .i64 0) := HR2.out.cell 4
      have f0 := HR2.out.froz 0
      have f1 := HR2.out.froz 1
      have f2 := HR2.out.froz 2
      have f3 := HR2.out.froz 3
      have f4 := HR2.out.froz 4
      clear hpk hga hr
      by_cases hl : p0 = l
      · by_cases hrr : p1 = r
        · subst hl
          subst hrr
          have HH := hid (lookP_hit HPK.out HLK.out rfl rfl)
          go_wp2_with fail
          refine bodyPost_ret (results26 (put5_blk HR2.out _ _ _ _ _) rfl rfl) rfl ⟨?_, put5_below HB2.out (by omega) _ _ _ _ _⟩
          rw [HH.out.1, HH.out.2]; rfl
        · subst hl
          go_wp2_with fail
          refine ⟨⟨k + 1, by go_num, by omega, lookP_next HPK.out HLK.out (fun e => hrr e.2.symm), HB2.out, HR2.out⟩, ?_⟩
          simp [RowKit.intOf]; omega
      · go_wp2_with fail
        refine ⟨⟨k + 1, by go_num, by omega, lookP_next HPK.out HLK.out (fun e => hl e.1.symm), HB2.out, HR2.out⟩, ?_⟩
        simp [RowKit.intOf]; omega
    · have hkn : ¬ (k : Int) < (n : Int) := by omega
      have hm := lookP_miss (ps := ps) (l := l) (r := r) (by have := HLK.out; rwa [List.take_of_length_le (by rw [HN.out]; omega)] at this)
      have HM := hid hm
      have HR2 := hid hr
      have z0 : wr.cell? ⟨w.heap.size, 0, none⟩ = some (.int .i64 0) := HR2.out.cell 0
      have z1 : wr.cell? ⟨w.heap.size, 1, none⟩ = some (.int .i64 0) := HR2.out.cell 1
      have z2 : wr.cell? ⟨w.heap.size, 2, none⟩ = some (.bool false) := HR2.out.cell 2
      have z3 : wr.cell? ⟨w.heap.size, 3, none⟩ = some (.int .i64 0) := HR2.out.cell 3
      have z4 : wr.cell? ⟨w.heap.size, 4, none⟩ = some (.int .i64 0) := HR2.out.cell 4
      have f0 := HR2.out.froz 0
      have f1 := HR2.out.froz 1
      have f2 := HR2.out.froz 2
      have f3 := HR2.out.froz 3
      have f4 := HR2.out.froz 4
      clear hm hr
      go_wp2_with fail
      refine bodyPost_ret (results26 (put5_blk HR2.out _ _ _ _ _) rfl rfl) rfl ⟨?_, put5_below HB1.out (by omega) _ _ _ _ _⟩
      rw [HM.out.1, HM.out.2]; rfl

set_option maxRecDepth 100000 in
set_option maxHeartbeats 2000000 in
theorem refglyph2_any {w : World} {a : Nat} {em : Int} {gs : List Gl} {ps : List Pr} {ag ap : Option Addr} {ca cb : Nat} (h : RT w a em gs ps ag ca ap cb) (hg : gs.length ≤ 9223372036854775807) (r : Int) :
    Calls Try.prog 25 #[.pointer (some ⟨a, 0, none⟩), .int .i64 r] w fun e w' => e = .returned (.tuple #[.agg (cg (gotG gs r)).toArray, .bool (hasG gs r)]) ∧ Below w.heap.size w w' := by
  have BT := h.blk.alloc (.cells #[.int .i64 0, .int .i64 0, .int .i64 0, .int .i64 0] 45)
  have BR := Blk.new w #[.int .i64 0, .int .i64 0, .int .i64 0, .int .i64 0] 45 rfl
  have B0 : Below w.heap.size w (w.alloc (.cells #[.int .i64 0, .int .i64 0, .int .i64 0, .int .i64 0] 45)) := (Below.refl _ w).alloc (Nat.le_refl _) _
  have HC := hid (refglyph_any em gs ag ap ca ps.length cb r (w.alloc (.cells #[.int .i64 0, .int .i64 0, .int .i64 0, .int .i64 0] 45)) hg (h.sg.below B0))
  clear h
  obtain ⟨g, hge⟩ : ∃ g, gotG gs r = g := ⟨_, rfl⟩
  obtain ⟨t, hte⟩ : ∃ t, hasG gs r = t := ⟨_, rfl⟩
  rw [hge, hte] at HC ⊢
  generalize gs.length = n at *
  generalize ps.length = m at *
  obtain ⟨g0, g1, g2, g3⟩ := g
  simp only [cg] at HC ⊢
  clear hge hte
  have t0 : (w.alloc (.cells #[.int .i64 0, .int .i64 0, .int .i64 0, .int .i64 0] 45)).cell? ⟨a, 0, none⟩ = some (.int .i64 em) := BT.cell 0
  have t1 : (w.alloc (.cells #[.int .i64 0, .int .i64 0, .int .i64 0, .int .i64 0] 45)).cell? ⟨a, 1, none⟩ = some (.slice ag n ca) := BT.cell 1
  have t2 : (w.alloc (.cells #[.int .i64 0, .int .i64 0, .int .i64 0, .int .i64 0] 45)).cell? ⟨a, 2, none⟩ = some (.slice ap m cb) := BT.cell 2
  have HR := hid BR
  have HB := hid B0
  clear BT BR B0
  go_enter Try.func25, Try.ntmps25
  go_wp2_with fail
  refine HC.out.mono ?_
  rintro e w2 ⟨rfl, hb⟩
  have HR2 := hid (HR.out.below hb)
  have HB2 : Hid (Below w.heap.size w w2) := hid (HB.out.trans (hb.mono (by simp)))
  have z0 : w2.cell? ⟨w.heap.size, 0, none⟩ = some (.int .i64 0) := HR2.out.cell 0
  have z1 : w2.cell? ⟨w.heap.size, 1, none⟩ = some (.int .i64 0) := HR2.out.cell 1
  have z2 : w2.cell? ⟨w.heap.size, 2, none⟩ = some (.int .i64 0) := HR2.out.cell 2
  have z3 : w2.cell? ⟨w.heap.size, 3, none⟩ = some (.int .i64 0) := HR2.out.cell 3
  have f0 := HR2.out.froz 0
  have f1 := HR2.out.froz 1
  have f2 := HR2.out.froz 2
  have f3 := HR2.out.froz 3
  clear hb t0 t1 t2
  go_wp2_with fail
  exact bodyPost_ret (results25 (put4_blk HR2.out _ _ _ _) rfl rfl) rfl ⟨rfl, put4_below HB2.out (by omega) _ _ _ _⟩

theorem results27 {W : World} {B : Nat} {a b c : Value} (hR : Blk W B [a, b, c] 25) {tmps : Array Value} (h4 : tmps[2]? = some (.pointer (some ⟨B, 0, none⟩))) :
    (results Try.f27 tmps).run Try.prog W = .ok (.agg #[a, b, c]) W := by
  have m0 : W.cell? ⟨B, 0, none⟩ = some a := hR.cell 0
  have m1 : W.cell? ⟨B, 1, none⟩ = some b := hR.cell 1
  have m2 : W.cell? ⟨B, 2, none⟩ = some c := hR.cell 2
  simp [results, Try.results27, go_sem, h4, m0, m1, m2]

set_option maxRecDepth 100000 in
set_option maxHeartbeats 2000000 in
theorem reffont_any {w : World} {a : Nat} {em : Int} {gs : List Gl} {ps : List Pr} {ag ap : Option Addr} {ca cb : Nat} (h : RT w a em gs ps ag ca ap cb) :
    Calls Try.prog 27 #[.pointer (some ⟨a, 0, none⟩)] w fun e w' => e = .returned (.agg #[.int .i64 em, .slice ag gs.length ca, .slice ap ps.length cb]) ∧ Below w.heap.size w w' := by
  have BT := h.blk.alloc (.cells #[.int .i64 0, .slice none 0 0, .slice none 0 0] 25)
  have BR := (Blk.new w #[.int .i64 em, .slice ag gs.length ca, .slice ap ps.length cb] 25 rfl)
  have B0 := (Below.refl _ w).alloc (Nat.le_refl _) (.cells #[.int .i64 em, .slice ag gs.length ca, .slice ap ps.length cb] 25)
  clear h
  generalize gs.length = n at *
  generalize ps.length = m at *
  have t0 : (w.alloc (.cells #[.int .i64 0, .slice none 0 0, .slice none 0 0] 25)).cell? ⟨a, 0, none⟩ = some (.int .i64 em) := BT.cell 0
  have t1 : (w.alloc (.cells #[.int .i64 0, .slice none 0 0, .slice none 0 0] 25)).cell? ⟨a, 1, none⟩ = some (.slice ag n ca) := BT.cell 1
  have t2 : (w.alloc (.cells #[.int .i64 0, .slice none 0 0, .slice none 0 0] 25)).cell? ⟨a, 2, none⟩ = some (.slice ap m cb) := BT.cell 2
  have HB := hid B0
  have HR := hid BR
  clear BT B0 BR
  go_enter Try.func27, Try.ntmps27
  go_wp2_with fail
  exact bodyPost_ret (results27 HR.out rfl) rfl ⟨rfl, HB.out⟩
end Go.Proofs.Ytnplplhhldpgmaa
