/- A font in memory of its own, with a mark behind each list. -/
import Derived.Test.YtdinlaoimpoolaaCopyMany
import Derived.Test.YtdinlaoimpoolaaTurnFacts
namespace Go.Proofs.Ytdinlaoimpoolaa
open Go.RowKit

theorem results9 {W : World} {B : Nat} {em : Int} {ag ap : Option Addr} {n ca m cb : Nat} (hR : Blk W B [.int .i64 em, .slice ag n ca, .slice ap m cb] 25) {tmps : Array Value} (h2 : tmps[2]? = some (.pointer (some ⟨B, 0, none⟩))) :
    (results Try.f9 tmps).run Try.prog W = .ok (.agg #[.int .i64 em, .slice ag n ca, .slice ap m cb]) W := by
  have m0 : W.cell? ⟨B, 0, none⟩ = some (.int .i64 em) := hR.cell 0
  have m1 : W.cell? ⟨B, 1, none⟩ = some (.slice ag n ca) := hR.cell 1
  have m2 : W.cell? ⟨B, 2, none⟩ = some (.slice ap m cb) := hR.cell 2
  simp [results, Try.results9, go_sem, h2, m0, m1, m2]
set_option maxRecDepth 100000 in
set_option maxHeartbeats 8000000 in
theorem copied_any (em : Int) (gs : List Gl) (ps : List Pr) (ag ap : Option Addr) (ca cb : Nat) (w : World) (hg : gs.length ≤ 4398046511104) (hp : ps.length ≤ 4398046511104) (sg : Sl w ag gs.length (gs.flatMap cg)) (sp : Sl w ap ps.length (ps.flatMap cp)) :
    Calls Try.prog 9 #[.agg #[.int .i64 em, .slice ag gs.length ca, .slice ap ps.length cb]] w fun e w' => ∃ g q, e = .returned (.agg #[.int .i64 em, .slice (some ⟨g, 0, none⟩) gs.length (gs.length + 1), .slice (some ⟨q, 0, none⟩) ps.length (ps.length + 1)]) ∧
      Blk w' g (gs.flatMap cg ++ cg (-77, 0, 0, 0)) 33 ∧ Blk w' q (ps.flatMap cp ++ cp (-77, 0, false, 0, 0)) 35 ∧ Below w.heap.size w w' := by
  obtain ⟨n, hn⟩ : ∃ n, gs.length = n := ⟨_, rfl⟩
  obtain ⟨m, hm⟩ : ∃ m, ps.length = m := ⟨_, rfl⟩
  have HN := hid hn
  have HM := hid hm
  rw [hn] at hg sg ⊢
  rw [hm] at hp sp ⊢
  have l1 : (n : Int) ≤ 4398046511104 := by omega
  have l2 : (m : Int) ≤ 4398046511104 := by omega
  have HSG := hid (fun X (h : Below w.heap.size w X) => sg.below h)
  have HSP := hid (fun X (h : Below w.heap.size w X) => sp.below h)
  obtain ⟨CG, hCG⟩ : ∃ CG, madeCells #[.int .i64 0, .int .i64 0, .int .i64 0, .int .i64 0] ((n + 1) * 4) = CG := ⟨_, rfl⟩
  obtain ⟨CP, hCP⟩ : ∃ CP, madeCells #[.int .i64 0, .int .i64 0, .bool false, .int .i64 0, .int .i64 0] ((m + 1) * 5) = CP := ⟨_, rfl⟩
  have HCG : Hid (CG.size = (n + 1) * 4 ∧ CG.toList.drop (n * 4) = [.int .i64 0, .int .i64 0, .int .i64 0, .int .i64 0]) := hid (by rw [← hCG]; exact ⟨size_madeCells _ _, drop_made _ n 4 rfl (by decide)⟩)
  have HCP : Hid (CP.size = (m + 1) * 5 ∧ CP.toList.drop (m * 5) = [.int .i64 0, .int .i64 0, .bool false, .int .i64 0, .int .i64 0]) := hid (by rw [← hCP]; exact ⟨size_madeCells _ _, drop_made _ m 5 rfl (by decide)⟩)
  obtain ⟨i3, hi3, z30, z31, z32⟩ := info_parts info45
  obtain ⟨i5, hi5, z50, z51, z52⟩ := info_parts info52
  have hmg : ∀ X, (Instr.makeSlice 22 (.int .i64 ((n : Int) + 1)) (.int .i64 ((n : Int) + 1))).run Try.prog X = .ok (.slice (some ⟨X.heap.size, 0, none⟩) (n + 1) (n + 1)) (X.alloc (.cells CG 33)) := fun X => by
    have := run_make (P := Try.prog) X 22 33 i3 _ Try.underlying22 hi3 z30 .i64 .i64 ((n : Int) + 1) ((n : Int) + 1) (by omega) (Int.le_refl _) (by rw [z32]; omega) (by omega)
    rw [this, z31, show ((n : Int) + 1).toNat = n + 1 by omega, ← hCG]
    rfl
  have hmp : ∀ X, (Instr.makeSlice 23 (.int .i64 ((m : Int) + 1)) (.int .i64 ((m : Int) + 1))).run Try.prog X = .ok (.slice (some ⟨X.heap.size, 0, none⟩) (m + 1) (m + 1)) (X.alloc (.cells CP 35)) := fun X => by
    have := run_make (P := Try.prog) X 23 35 i5 _ Try.underlying23 hi5 z50 .i64 .i64 ((m : Int) + 1) ((m : Int) + 1) (by omega) (Int.le_refl _) (by rw [z52]; omega) (by omega)
    rw [this, z51, show ((m : Int) + 1).toNat = m + 1 by omega, ← hCP]
    rfl
  clear hn hm sg sp hg hp hCG hCP
  obtain ⟨h, hh⟩ : ∃ h, w.heap.size = h := ⟨_, rfl⟩
  have HH := hid hh
  have HF3 : Hid (Blk (((w.alloc (.cells #[.int .i64 em, .slice ag n ca, .slice ap m cb] 25)).alloc (.cells #[.int .i64 0, .slice none 0 0, .slice none 0 0] 25)).alloc (.cells CG 33)) h [.int .i64 em, .slice ag n ca, .slice ap m cb] 25) := hid (((Blk.new w _ 25 hh).alloc _).alloc _)
  have HR3 : Hid (Blk (((w.alloc (.cells #[.int .i64 em, .slice ag n ca, .slice ap m cb] 25)).alloc (.cells #[.int .i64 0, .slice none 0 0, .slice none 0 0] 25)).alloc (.cells CG 33)) (h + 1) [.int .i64 0, .slice none 0 0, .slice none 0 0] 25) := hid ((Blk.new (w.alloc _) _ 25 (by simp [hh])).alloc _)
  have HG3 : Hid (Blk (((w.alloc (.cells #[.int .i64 em, .slice ag n ca, .slice ap m cb] 25)).alloc (.cells #[.int .i64 0, .slice none 0 0, .slice none 0 0] 25)).alloc (.cells CG 33)) (h + 1 + 1) CG.toList 33) := hid (Blk.new ((w.alloc _).alloc _) CG 33 (by simp [hh]))
  have HB3 : Hid (Below w.heap.size w (((w.alloc (.cells #[.int .i64 em, .slice ag n ca, .slice ap m cb] 25)).alloc (.cells #[.int .i64 0, .slice none 0 0, .slice none 0 0] 25)).alloc (.cells CG 33))) := hid (Below.al (Below.al (Below.al (Below.refl _ w) _) _) _)
  have HS3 := hid (HSG.out _ HB3.out)
  rw [HH.out] at HB3
  obtain ⟨w4, hcp, hb4, ho4⟩ := run_copy_many (P := Try.prog) _ 22 22 3 33 (h + 1 + 1) (n + 1) (n + 1) ag n ca 4 CG.toList 33 (gs.flatMap cg) Try.underlying22 info33 HG3.out (by rw [flat_len cg_len, HN.out]) (Nat.le_succ n) HS3.out (by rw [flat_len cg_len, HN.out, Array.length_toList, HCG.out.1]; omega) (cg_one gs)
  rw [flat_len cg_len, HN.out, HCG.out.2] at hb4
  have HG4 := hid hb4
  have HF4 := hid (ho4.blk HF3.out (by rw [List.mem_singleton]; omega))
  have HR4 := hid (ho4.blk HR3.out (by rw [List.mem_singleton]; omega))
  have HB4 : Hid (Below h w w4) := hid (HB3.out.trans (ho4.toBelow (by have := HB3.out.size; have := HF3.out.lt; omega) (by intro k hk; simp at hk; omega)))
  clear hb4 ho4 HF3 HR3 HG3 HB3 HS3
  have c1 : w4.cell? ⟨h, 1, none⟩ = some (.slice ag n ca) := HF4.out.cell 1
  have c2 : w4.cell? ⟨h + 1 + 1, n * 4, none⟩ = some (.int .i64 0) := (HG4.out.cell (n * 4)).trans (by
    rw [List.getElem?_append_right (by rw [flat_len cg_len, HN.out]; exact Nat.le_refl _), flat_len cg_len, HN.out, Nat.sub_self]; rfl)
  have f2 := HG4.out.froz (n * 4)
  have HG5 : Hid (Blk ((w4.setCell ⟨h + 1 + 1, n * 4, none⟩ (.int .i64 (-77))).alloc (.cells CP 35)) (h + 1 + 1) (gs.flatMap cg ++ cg (-77, 0, 0, 0)) 33) := hid (by
    have := (HG4.out.set (n * 4) (.int .i64 (-77))).alloc (.cells CP 35)
    rw [List.set_append_right _ _ (by rw [flat_len cg_len, HN.out]; exact Nat.le_refl _), flat_len cg_len, HN.out, Nat.sub_self] at this
    exact this)
  have HF5 : Hid (Blk ((w4.setCell ⟨h + 1 + 1, n * 4, none⟩ (.int .i64 (-77))).alloc (.cells CP 35)) h [.int .i64 em, .slice ag n ca, .slice ap m cb] 25) := hid ((oth HF4.out (by omega)).alloc _)
  have HR5 : Hid (Blk ((w4.setCell ⟨h + 1 + 1, n * 4, none⟩ (.int .i64 (-77))).alloc (.cells CP 35)) (h + 1) [.int .i64 0, .slice none 0 0, .slice none 0 0] 25) := hid ((oth HR4.out (by omega)).alloc _)
  have HL4 : Hid (h ≤ w4.heap.size) := hid (Nat.le_of_lt HF4.out.lt)
  have HB5 : Hid (Below h w ((w4.setCell ⟨h + 1 + 1, n * 4, none⟩ (.int .i64 (-77))).alloc (.cells CP 35))) := hid ((HB4.out.setCell (p := ⟨h + 1 + 1, n * 4, none⟩) (by show h ≤ h + 1 + 1; omega) _).alloc (by have := HL4.out; simp [World.setCell]; omega) _)
  have HP5 : Hid (Blk ((w4.setCell ⟨h + 1 + 1, n * 4, none⟩ (.int .i64 (-77))).alloc (.cells CP 35)) w4.heap.size CP.toList 35) := hid (Blk.new (w4.setCell _ _) CP 35 (by simp [World.setCell]))
  have HS5 := hid (HSP.out _ (by rw [HH.out]; exact HB5.out))
  obtain ⟨w6, hcq, hb6, ho6⟩ := run_copy_many (P := Try.prog) _ 23 23 3 35 w4.heap.size (m + 1) (m + 1) ap m cb 5 CP.toList 35 (ps.flatMap cp) Try.underlying23 info35 HP5.out (by rw [flat_len cp_len, HM.out]) (Nat.le_succ m) HS5.out (by rw [flat_len cp_len, HM.out, Array.length_toList, HCP.out.1]; omega) (cp_one ps)
  rw [flat_len cp_len, HM.out, HCP.out.2] at hb6
  obtain ⟨q, hq⟩ : ∃ q, w4.heap.size = q := ⟨_, rfl⟩
  have HQ : Hid (h + 1 + 1 < q) := hid (by rw [← hq]; exact HG4.out.lt)
  rw [hq] at hcq hb6 ho6
  have HP6 := hid hb6
  have HG6 := hid (ho6.blk HG5.out (by have := HQ.out; rw [List.mem_singleton]; omega))
  have HF6 := hid (ho6.blk HF5.out (by have := HQ.out; rw [List.mem_singleton]; omega))
  have HR6 := hid (ho6.blk HR5.out (by have := HQ.out; rw [List.mem_singleton]; omega))
  have HB6 : Hid (Below h w w6) := hid (HB5.out.trans (ho6.toBelow (by have := HB5.out.size; have := HF5.out.lt; omega) (by intro k hk; have := HQ.out; simp at hk; omega)))
  clear hb6 ho6
  have c3 : w4.cell? ⟨h, 2, none⟩ = some (.slice ap m cb) := HF4.out.cell 2
  have d2 : w6.cell? ⟨h, 2, none⟩ = some (.slice ap m cb) := HF6.out.cell 2
  have d3 : w6.cell? ⟨q, m * 5, none⟩ = some (.int .i64 0) := (HP6.out.cell (m * 5)).trans (by
    rw [List.getElem?_append_right (by rw [flat_len cp_len, HM.out]; exact Nat.le_refl _), flat_len cp_len, HM.out, Nat.sub_self]; rfl)
  have g3 := HP6.out.froz (m * 5)
  have e2 : ((w4.setCell ⟨h + 1 + 1, n * 4, none⟩ (.int .i64 (-77))).alloc (.cells CP 35)).cell? ⟨h, 2, none⟩ = some (.slice ap m cb) := HF5.out.cell 2
  have l3 : (0 : Int) ≤ (n : Int) := by omega
  have l4 : (n : Int) < (n : Int) + 1 := by omega
  have l5 : (0 : Int) ≤ (m : Int) := by omega
  have l6 : (m : Int) < (m : Int) + 1 := by omega
  go_enter Try.func9, Try.ntmps9
  go_wp2_with fail
  have HP7 : Hid (Blk (w6.setCell ⟨q, m * 5, none⟩ (.int .i64 (-77))) q (ps.flatMap cp ++ cp (-77, 0, false, 0, 0)) 35) := hid (by
    have := HP6.out.set (m * 5) (.int .i64 (-77))
    rw [List.set_append_right _ _ (by rw [flat_len cp_len, HM.out]; exact Nat.le_refl _), flat_len cp_len, HM.out, Nat.sub_self] at this
    exact this)
  have HG7 : Hid (Blk (w6.setCell ⟨q, m * 5, none⟩ (.int .i64 (-77))) (h + 1 + 1) (gs.flatMap cg ++ cg (-77, 0, 0, 0)) 33) := hid (oth HG6.out (by have := HQ.out; omega))
  have HF7 : Hid (Blk (w6.setCell ⟨q, m * 5, none⟩ (.int .i64 (-77))) h [.int .i64 em, .slice ag n ca, .slice ap m cb] 25) := hid (oth HF6.out (by have := HQ.out; omega))
  have HR7 : Hid (Blk (w6.setCell ⟨q, m * 5, none⟩ (.int .i64 (-77))) (h + 1) [.int .i64 0, .slice none 0 0, .slice none 0 0] 25) := hid (oth HR6.out (by have := HQ.out; omega))
  have HB7 : Hid (Below h w (w6.setCell ⟨q, m * 5, none⟩ (.int .i64 (-77)))) := hid (HB6.out.setCell (p := ⟨q, m * 5, none⟩) (by show h ≤ q; have := HQ.out; omega) _)
  obtain ⟨W, hW⟩ : ∃ W, w6.setCell ⟨q, m * 5, none⟩ (.int .i64 (-77)) = W := ⟨_, rfl⟩
  rw [hW] at HP7 HG7 HF7 HR7 HB7 ⊢
  have k0 : W.drew.cell? ⟨h, 0, none⟩ = some (.int .i64 em) := HF7.out.cell 0
  have k1 : W.drew.cell? ⟨h, 1, none⟩ = some (.slice ag n ca) := HF7.out.cell 1
  have k2 : W.drew.cell? ⟨h, 2, none⟩ = some (.slice ap m cb) := HF7.out.cell 2
  have r0 : W.drew.cell? ⟨h + 1, 0, none⟩ = some (.int .i64 0) := HR7.out.cell 0
  have r1 : W.drew.cell? ⟨h + 1, 1, none⟩ = some (.slice none 0 0) := HR7.out.cell 1
  have r2 : W.drew.cell? ⟨h + 1, 2, none⟩ = some (.slice none 0 0) := HR7.out.cell 2
  have t0 : W.drew.frozen? ⟨h + 1, 0, none⟩ = false := HR7.out.froz 0
  have t1 : W.drew.frozen? ⟨h + 1, 1, none⟩ = false := HR7.out.froz 1
  have t2 : W.drew.frozen? ⟨h + 1, 2, none⟩ = false := HR7.out.froz 2
  have r0' : W.cell? ⟨h + 1, 0, none⟩ = some (.int .i64 0) := HR7.out.cell 0
  have r1' : W.cell? ⟨h + 1, 1, none⟩ = some (.slice none 0 0) := HR7.out.cell 1
  have r2' : W.cell? ⟨h + 1, 2, none⟩ = some (.slice none 0 0) := HR7.out.cell 2
  have t0' : W.frozen? ⟨h + 1, 0, none⟩ = false := HR7.out.froz 0
  have t1' : W.frozen? ⟨h + 1, 1, none⟩ = false := HR7.out.froz 1
  have t2' : W.frozen? ⟨h + 1, 2, none⟩ = false := HR7.out.froz 2
  have HK7 : Hid (∀ v0 v1 v2, (((W.setCell ⟨h + 1, 0, none⟩ v0).setCell ⟨h + 1, 1, none⟩ v1).setCell ⟨h + 1, 2, none⟩ v2).drew.cell? ⟨h, 0, none⟩ = some (.int .i64 em) ∧ (((W.setCell ⟨h + 1, 0, none⟩ v0).setCell ⟨h + 1, 1, none⟩ v1).setCell ⟨h + 1, 2, none⟩ v2).drew.cell? ⟨h, 1, none⟩ = some (.slice ag n ca) ∧ (((W.setCell ⟨h + 1, 0, none⟩ v0).setCell ⟨h + 1, 1, none⟩ v1).setCell ⟨h + 1, 2, none⟩ v2).drew.cell? ⟨h, 2, none⟩ = some (.slice ap m cb)) := hid fun v0 v1 v2 => by
    have : Blk (((W.setCell ⟨h + 1, 0, none⟩ v0).setCell ⟨h + 1, 1, none⟩ v1).setCell ⟨h + 1, 2, none⟩ v2).drew h [.int .i64 em, .slice ag n ca, .slice ap m cb] 25 := oth (oth (oth HF7.out (by omega)) (by omega)) (by omega)
    exact ⟨this.cell 0, this.cell 1, this.cell 2⟩
  have m1 : (n : Int) ≤ (n : Int) + 1 := by omega
  have m2 : (m : Int) ≤ (m : Int) + 1 := by omega
  have m3 : ¬ n + 1 = 0 := by omega
  have m4 : ¬ m + 1 = 0 := by omega
  clear hW c1 c2 c3 d2 d3 e2 g3 f2 hcp hcq hmg hmp HF4 HR4 HG4 HB4 HG5 HF5 HR5 HB5 HP5 HS5 HP6 HG6 HF6 HR6 HB6
  go_region_held3 (fun X => X.cell? ⟨h, 0, none⟩ = some (.int .i64 em) ∧ X.cell? ⟨h, 1, none⟩ = some (.slice ag n ca) ∧ X.cell? ⟨h, 2, none⟩ = some (.slice ap m cb)) (first | exact ⟨k0, k1, k2⟩ | exact HK7.out _ _ _) (fail)
  have HR8 : Hid (Blk (((W.setCell ⟨h + 1, 0, none⟩ (.int .i64 em)).setCell ⟨h + 1, 1, none⟩ (.slice (some ⟨h + 1 + 1, 0, none⟩) n (n + 1))).setCell ⟨h + 1, 2, none⟩ (.slice (some ⟨q, 0, none⟩) m (m + 1))).drew (h + 1) [.int .i64 em, .slice (some ⟨h + 1 + 1, 0, none⟩) n (n + 1), .slice (some ⟨q, 0, none⟩) m (m + 1)] 25) := hid (((HR7.out.set 0 _).set 1 _).set 2 _)
  have HP8 : Hid (Blk (((W.setCell ⟨h + 1, 0, none⟩ (.int .i64 em)).setCell ⟨h + 1, 1, none⟩ (.slice (some ⟨h + 1 + 1, 0, none⟩) n (n + 1))).setCell ⟨h + 1, 2, none⟩ (.slice (some ⟨q, 0, none⟩) m (m + 1))).drew q (ps.flatMap cp ++ cp (-77, 0, false, 0, 0)) 35) := hid (by have := HQ.out; exact oth (oth (oth HP7.out (by omega)) (by omega)) (by omega))
  have HG8 : Hid (Blk (((W.setCell ⟨h + 1, 0, none⟩ (.int .i64 em)).setCell ⟨h + 1, 1, none⟩ (.slice (some ⟨h + 1 + 1, 0, none⟩) n (n + 1))).setCell ⟨h + 1, 2, none⟩ (.slice (some ⟨q, 0, none⟩) m (m + 1))).drew (h + 1 + 1) (gs.flatMap cg ++ cg (-77, 0, 0, 0)) 33) := hid (oth (oth (oth HG7.out (by omega)) (by omega)) (by omega))
  have HB8 : Hid (Below h w (((W.setCell ⟨h + 1, 0, none⟩ (.int .i64 em)).setCell ⟨h + 1, 1, none⟩ (.slice (some ⟨h + 1 + 1, 0, none⟩) n (n + 1))).setCell ⟨h + 1, 2, none⟩ (.slice (some ⟨q, 0, none⟩) m (m + 1))).drew) := hid ((((HB7.out.setCell (p := ⟨h + 1, 0, none⟩) (Nat.le_succ h) _).setCell (p := ⟨h + 1, 1, none⟩) (Nat.le_succ h) _).setCell (p := ⟨h + 1, 2, none⟩) (Nat.le_succ h) _).drew)
  go_wp2_with fail
  refine bodyPost_ret (results9 HR8.out rfl) rfl ⟨h + 1 + 1, q, rfl, HG8.out, HP8.out, by rw [HH.out]; exact HB8.out⟩
end Go.Proofs.Ytdinlaoimpoolaa
