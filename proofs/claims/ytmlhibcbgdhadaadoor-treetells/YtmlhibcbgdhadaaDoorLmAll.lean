/- What a lent document is in memory; it is still so. -/
import Derived.Test.YtmlhibcbgdhadaaDoorLend
namespace Go.Proofs.YtmlhibcbgdhadaaDoor
open Go.RowKit

/-- a lent document: the pointer's block, its two rows, the characters' blocks -/
structure LM (w : World) (B xb ab ac : Nat) (vc : Value) (ps : List Ln) : Prop where
  bx : Blk w xb [.slice (some ⟨ab, 0, none⟩) (ps.length + 1) ac, vc] 32
  va : w.ownsRow B 42 13 (.slice (some ⟨ab, 0, none⟩) (ps.length + 1) ac) (ps.length + 1) ((ps.map ly).flatMap ndc ++ ndc (ndS, .slice none 0 0))
  vc : w.ownsRow B 40 1 vc ps.length (ps.map lc)
  ch : ∀ p ∈ ps, ChR w B p
theorem LM.still {w w' : World} {B xb ab ac : Nat} {vc : Value} {ps : List Ln} (h : LM w B xb ab ac vc ps) (o : Only [] w w') : LM w' B xb ab ac vc ps :=
  ⟨(o.block _ h.bx.lt (by simp)).trans h.bx, row_only h.va o (by simp), row_only h.vc o (by simp), fun p hp => row_only (h.ch p hp) o (by simp)⟩
theorem LM.room {w : World} {B xb ab ac : Nat} {vc : Value} {ps : List Ln} (h : LM w B xb ab ac vc ps) : ps.length + 1 ≤ ac := by
  obtain ⟨g, cap, e, hc⟩ := row_succ h.va
  injection e with e1 e2 e3
  omega
theorem lend_c {xs : List (Nd × Value)} {ad : Option Addr} {cap B : Nat} (w : World) (hNL : NL w B ad xs) (hB : B ≤ w.heap.size) (hf : ∀ x ∈ xs, x.1.chs.length ≤ 2147483647) (hl : xs.length ≤ 2147483647) :
    Calls Tryd.prog 11 #[.slice ad xs.length cap] w fun e w' => (∃ xb ab ac vc ps, e = .returned (.pointer (some ⟨xb, 0, none⟩)) ∧ w.heap.size ≤ xb ∧ ps.map (·.1) = nds xs ∧ LM w' w.heap.size xb ab ac vc ps) ∧ Only [] w w' :=
  (lend_any w hNL hB hf hl).mono fun e w' ⟨xb, va, vc, ps, h1, h2, h3, h4, h5, h6, h7, h8⟩ => by
    obtain ⟨ab, ac, rfl, -⟩ := row_succ h5
    exact ⟨⟨xb, ab, ac, vc, ps, h1, h2, h4, ⟨h3, h5, h6, h7⟩⟩, h8⟩
/-- the list of the copies -/
theorem LM.nl {w : World} {B xb ab ac : Nat} {vc : Value} {ps : List Ln} (h : LM w B xb ab ac vc ps) : NL w w.heap.size (some ⟨ab, 0, none⟩) (ps.map ly) := by
  obtain ⟨ad, cap, e, hs, -⟩ := row_reads h.va
  injection e with e1 e2 e3
  subst e1
  obtain ⟨b, off, e4, ha⟩ := hs (by omega)
  injection e4 with e4
  injection e4 with e4 e5
  subst e4 e5
  refine ⟨fun _ => ⟨ab, 0, rfl, ha.1, ha.1, fun j u hj => ha.2 j u ?_⟩, fun x hx => ?_⟩
  · rw [List.getElem?_append_left (List.getElem?_eq_some_iff.1 hj).1]; exact hj
  · obtain ⟨p, hp, rfl⟩ := List.mem_map.1 hx
    refine ⟨some ⟨p.2.1, 0, none⟩, p.2.2, rfl, fun _ => ?_⟩
    obtain ⟨ad2, cap2, e6, hs2, -⟩ := row_reads (h.ch p hp)
    injection e6 with e7 e8 e9
    obtain ⟨b2, off2, e10, ha2⟩ := hs2 (by omega)
    rw [← e7] at e10
    injection e10 with e10
    injection e10 with e10 e11
    refine ⟨p.2.1, 0, rfl, by rw [e10]; exact ha2.1, by rw [e10]; exact ha2.1, fun j u hj => ?_⟩
    replace hj : (p.1.chs.flatMap chI)[j]? = some u := hj
    have := ha2.2 j u (by rw [List.getElem?_append_left (List.getElem?_eq_some_iff.1 hj).1]; exact hj)
    rw [e10]
    show w.cell? ⟨b2, 0 + j, none⟩ = some u
    rw [← e11] at this
    exact this
theorem ly_nds (ps : List Ln) : nds (ps.map ly) = ps.map (·.1) := by unfold nds; rw [List.map_map]; rfl
/-- the stopper behind the copies -/
theorem LM.stop {w : World} {B xb ab ac : Nat} {vc : Value} {ps : List Ln} (h : LM w B xb ab ac vc ps) : ab < w.heap.size ∧ w.cell? ⟨ab, ps.length * 13, none⟩ = some (.int .i64 (-77)) := by
  obtain ⟨ad, cap, e, hs, -⟩ := row_reads h.va
  injection e with e1 e2 e3
  subst e1
  obtain ⟨b, off, e4, ha⟩ := hs (by omega)
  injection e4 with e4
  injection e4 with e4 e5
  subst e4 e5
  refine ⟨ha.1, ?_⟩
  have hl : ((ps.map ly).flatMap ndc).length = ps.length * 13 := by rw [flat_len ndc_len]; simp
  have := ha.2 (ps.length * 13) (.int .i64 (-77)) (by rw [List.getElem?_append_right (by rw [hl]; exact Nat.le_refl _), hl, Nat.sub_self]; rfl)
  rwa [Nat.zero_add] at this
/-- one kept list -/
theorem LM.kept {w : World} {B xb ab ac : Nat} {vc : Value} {ps : List Ln} (h : LM w B xb ab ac vc ps) {k : Nat} {p : Ln} (hk : ps[k]? = some p) :
    ∃ vb vcp, vc = .slice (some ⟨vb, 0, none⟩) ps.length vcp ∧ vb < w.heap.size ∧ w.cell? ⟨vb, k, none⟩ = some (lc p) ∧ p.2.1 < w.heap.size ∧ w.cell? ⟨p.2.1, p.1.chs.length * 3, none⟩ = some (.int .i64 (-77)) ∧ p.1.chs.length + 1 ≤ p.2.2 := by
  have hlt := (List.getElem?_eq_some_iff.1 hk).1
  obtain ⟨m, hm⟩ : ∃ m, ps.length = m + 1 := ⟨ps.length - 1, by omega⟩
  have hv := h.vc
  rw [hm] at hv
  obtain ⟨vb, vcp, rfl, -⟩ := row_succ hv
  obtain ⟨ad, cap, e, hs, -⟩ := row_reads hv
  injection e with e1 e2 e3
  subst e1
  obtain ⟨b, off, e4, ha⟩ := hs (by omega)
  injection e4 with e4
  injection e4 with e4 e5
  subst e4 e5
  have h1 := ha.2 k (lc p) (by rw [List.getElem?_map, hk]; rfl)
  rw [Nat.zero_add] at h1
  have hc := h.ch p (List.mem_of_getElem? hk)
  obtain ⟨g, cap2, e6, hc2⟩ := row_succ hc
  obtain ⟨ad2, cap3, e7, hs2, -⟩ := row_reads hc
  obtain ⟨b2, off2, e10, ha2⟩ := hs2 (by omega)
  rw [e10] at e7
  have e8 : some (⟨p.2.1, 0, none⟩ : Addr) = some ⟨b2, off2, none⟩ := by injection e7
  have e9 : p.2.2 = cap2 := by injection e6
  injection e8 with e8
  injection e8 with e8 e11
  have hl : (p.1.chs.flatMap chI).length = p.1.chs.length * 3 := flat_len chI_len _
  have h2 := ha2.2 (p.1.chs.length * 3) (.int .i64 (-77)) (by rw [List.getElem?_append_right (by rw [hl]; exact Nat.le_refl _), hl, Nat.sub_self]; rfl)
  refine ⟨vb, vcp, by rw [hm], ha.1, h1, by rw [e8]; exact ha2.1, ?_, by rw [e9]; exact hc2⟩
  rw [e8]
  rw [← e11, Nat.zero_add] at h2
  exact h2
end Go.Proofs.YtmlhibcbgdhadaaDoor
namespace Go.Proofs.YtmlhibcbgdhadaaDoor
open Go.RowKit

structure WI (w0 W : World) (B xb ab ac : Nat) (vc : Value) (n : Nat) (ps : List Ln) : Prop where
  bx : Blk W xb [.slice (some ⟨ab, 0, none⟩) (n + 1) ac, vc] 32
  va : ∃ A, Blk W ab A 42 ∧ (n + 1) * 13 ≤ A.length
  vc : W.ownsRow B 40 1 vc n (ps.map lc)
  ch : ∀ p ∈ ps, ∃ C, Blk W p.2.1 C 44 ∧ (p.1.chs.length + 1) * 3 ≤ C.length ∧ B ≤ p.2.1
  ba : B ≤ ab
  on : Only [] w0 W
theorem row_len {w : World} {base size n c b : Nat} {e : TypeId} {xs : List Value} (h : w.ownsRow base e size (.slice (some ⟨b, 0, none⟩) n c) n xs) : ∃ C, Blk w b C e ∧ n * size ≤ C.length ∧ base ≤ b := by
  rcases h.2 with ⟨e2, _⟩ | ⟨g, cap', cur, e2, hb, hh, hnc, _, hs, hx⟩
  · cases e2
  · cases e2
    refine ⟨cur.toList, by simpa [Blk] using hh, ?_, hb⟩
    have := Nat.mul_le_mul_right size hnc
    simp; omega
theorem LM.wi {w0 w : World} {B xb ab ac : Nat} {vc : Value} {ps : List Ln} (h : LM w B xb ab ac vc ps) (o : Only [] w0 w) : WI w0 w B xb ab ac vc ps.length ps := by
  obtain ⟨A, h1, h2, h3⟩ := row_len h.va
  exact ⟨h.bx, ⟨A, h1, h2⟩, h.vc, fun p hp => by
    obtain ⟨C, q1, q2, q3⟩ := row_len (h.ch p hp)
    exact ⟨C, q1, q2, q3⟩, h3, o⟩
theorem WI.set {w0 W : World} {B xb ab ac n : Nat} {vc : Value} {ps : List Ln} (h : WI w0 W B xb ab ac vc n ps) (hB : w0.heap.size ≤ B) {b : Nat} {C : List Value} {t : TypeId} (hb : Blk W b C t) (ht : t ≠ 32 ∧ t ≠ 40) (hbB : B ≤ b) (i : Nat) (v : Value) : WI w0 (W.setCell ⟨b, i, none⟩ v) B xb ab ac vc n ps := by
  have ex : ∀ {c : Nat} {X : List Value} {u : TypeId} {m : Nat}, Blk W c X u → m ≤ X.length → ∃ Y, Blk (W.setCell ⟨b, i, none⟩ v) c Y u ∧ m ≤ Y.length := fun {c X u m} hc hm => by
    by_cases e : c = b
    · subst e; exact ⟨_, hc.set i v, by rw [List.length_set]; exact hm⟩
    · exact ⟨X, hc.other _ _ e, hm⟩
  obtain ⟨A, a1, a2⟩ := h.va
  refine ⟨h.bx.other _ _ (fun e => by subst e; exact ht.1 (h.bx.same hb).2.symm), ex a1 a2, ownsRow_setCell_other h.vc (row_not h.vc hb (fun e => ht.2 e.symm)) v, fun p hp => ?_, h.ba, h.on.set (.inr (Nat.le_trans hB hbB)) v⟩
  obtain ⟨D, d1, d2, d3⟩ := h.ch p hp
  obtain ⟨Y, y1, y2⟩ := ex d1 d2
  exact ⟨Y, y1, y2, d3⟩
theorem WI.kept {w0 w : World} {B xb ab ac n : Nat} {vc : Value} {ps : List Ln} (h : WI w0 w B xb ab ac vc n ps) {k : Nat} {p : Ln} (hk : ps[k]? = some p) (hn : ps.length = n) :
    ∃ vb vcp, vc = .slice (some ⟨vb, 0, none⟩) n vcp ∧ w.cell? ⟨vb, k, none⟩ = some (lc p) := by
  have hlt := (List.getElem?_eq_some_iff.1 hk).1
  obtain ⟨m, hm⟩ : ∃ m, n = m + 1 := ⟨n - 1, by omega⟩
  have hv := h.vc
  rw [hm] at hv
  obtain ⟨vb, vcp, rfl, -⟩ := row_succ hv
  obtain ⟨ad, cap, e, hs, -⟩ := row_reads hv
  injection e with e1 e2 e3
  subst e1
  obtain ⟨b, off, e4, ha⟩ := hs (by omega)
  injection e4 with e4
  injection e4 with e4 e5
  subst e4 e5
  have h1 := ha.2 k (lc p) (by rw [List.getElem?_map, hk]; rfl)
  rw [Nat.zero_add] at h1
  exact ⟨vb, vcp, by rw [hm], h1⟩
set_option maxRecDepth 100000 in
set_option maxHeartbeats 16000000 in
theorem wipe_c {w0 w : World} {B xb ab ac n : Nat} {vc : Value} {ps : List Ln} (h : WI w0 w B xb ab ac vc n ps) (hB : w0.heap.size ≤ B) (hn : ps.length = n) (hn31 : n ≤ 2147483647) (hc31 : ∀ p ∈ ps, p.1.chs.length ≤ 2147483647) :
    Calls Tryd.prog 17 #[.pointer (some ⟨xb, 0, none⟩)] w fun e w' => e = .returned (.tuple #[]) ∧ Only [] w0 w' := by
  have HW := hid h
  have HB := hid hB
  have HN := hid hn
  have HC := hid hc31
  clear h hB hn hc31
  obtain ⟨m0, cc0, hvc⟩ : ∃ (ad : Option Addr) (c : Nat), vc = .slice ad n c := by
    obtain ⟨ad, c, e, -⟩ := row_reads HW.out.vc
    exact ⟨ad, c, e⟩
  subst hvc
  go_enter Tryd.func17, Tryd.ntmps17
  go_wp2_with fail
  go_loopw [2] (fun v wr => ∃ i : Nat, v = .int .i64 i ∧ i ≤ n ∧ Hid (WI w0 wr B xb ab ac (.slice m0 n cc0) n ps)) (fun v _ => n - (RowKit.intOf v).toNat)
  case atStart => exact ⟨0, rfl, by omega, HW.out⟩
  case round =>
    obtain ⟨i, rfl, hi, hw⟩ := hrel
    have x0 := Blk.cell hw.out.bx 1
    simp only [List.getElem?_cons_zero, List.getElem?_cons_succ] at x0
    by_cases hlt : i < n
    · obtain ⟨p, hp⟩ := some_at (xs := ps) (i := i) (by rw [HN.out]; exact hlt)
      have hil : (i : Int) < (n : Int) := by omega
      have hi0 : (0 : Int) ≤ (i : Int) := by omega
      have HLT := hid hlt
      obtain ⟨xm, hxm⟩ : ∃ xm, p.1.chs.length = xm := ⟨_, rfl⟩
      have hx31 : xm ≤ 2147483647 := by rw [← hxm]; exact HC.out p (List.mem_of_getElem? hp)
      have HXM := hid hxm
      have HP := hid hp
      clear hp hxm hlt
      go_wp2_with fail
      go_loopw [3] (fun v wr => ∃ k : Nat, v = .int .i64 k ∧ k ≤ xm + 1 ∧ Hid (WI w0 wr B xb ab ac (.slice m0 n cc0) n ps)) (fun v _ => xm + 1 - (RowKit.intOf v).toNat)
      case atStart => exact ⟨0, rfl, by omega, hw.out⟩
      case round =>
        clear hw x0
        obtain ⟨k, rfl, hk, hw⟩ := hrel
        have x0 := Blk.cell hw.out.bx 1
        simp only [List.getElem?_cons_zero, List.getElem?_cons_succ] at x0
        obtain ⟨vb, vcp, hve, cv⟩ := hw.out.kept HP.out HN.out
        injection hve with hve1 hve2 hve3
        subst hve1
        unfold lc at cv
        rw [HXM.out] at cv
        have hk0 : (0 : Int) ≤ (k : Int) := by omega
        by_cases hkl : k < xm + 1
        · have hkl1 : (k : Int) < (xm : Int) + 1 := by omega
          obtain ⟨C, c1, c2, c3⟩ := hw.out.ch p (List.mem_of_getElem? HP.out)
          rw [HXM.out] at c2
          have f0 := c1.froz (k * 3)
          have f1 := c1.froz (k * 3 + 1)
          have f2 := c1.froz (k * 3 + 2)
          obtain ⟨u0, g0⟩ : ∃ u, wr.cell? ⟨p.2.1, k * 3, none⟩ = some u := ⟨_, (c1.cell _).trans (List.getElem?_eq_getElem (by omega))⟩
          obtain ⟨u1, g1⟩ : ∃ u, wr.cell? ⟨p.2.1, k * 3 + 1, none⟩ = some u := ⟨_, (c1.cell _).trans (List.getElem?_eq_getElem (by omega))⟩
          obtain ⟨u2, g2⟩ : ∃ u, wr.cell? ⟨p.2.1, k * 3 + 2, none⟩ = some u := ⟨_, (c1.cell _).trans (List.getElem?_eq_getElem (by omega))⟩
          have s1 := hw.out.set HB.out c1 (by decide) c3 (k * 3) (.int .i64 (65 + (k : Int) % 3))
          have s2 := s1.set HB.out (c1.set (k * 3) (.int .i64 (65 + (k : Int) % 3))) (by decide) c3 (k * 3 + 1) (.int .i64 0)
          have S3 := hid (s2.set HB.out ((c1.set (k * 3) (.int .i64 (65 + (k : Int) % 3))).set (k * 3 + 1) (.int .i64 0)) (by decide) c3 (k * 3 + 2) (.int .i64 0))
          have r0 : (0 : Int) ≤ (k : Int) % 3 := by omega
          have r1 : (k : Int) % 3 < 3 := by omega
          have HKL := hid hkl
          obtain ⟨pb, hpb⟩ : ∃ pb, p.2.1 = pb := ⟨_, rfl⟩
          obtain ⟨pc, hpc⟩ : ∃ pc, p.2.2 = pc := ⟨_, rfl⟩
          rw [hpb] at f0 f1 f2 g0 g1 g2 S3
          rw [hpb, hpc] at cv
          clear hw hkl c1 c2 c3 s1 s2 hpb hpc
          go_wp2_with fail
          go_roundw
          case rel => exact ⟨k + 1, by go_num, HKL.out, S3.out⟩
          case measure => have := HKL.out; simp [RowKit.intOf]; omega
        · have hkl1 : ¬ (k : Int) < (xm : Int) + 1 := by omega
          clear hkl
          go_wp2_with fail
          go_roundw
          case rel => exact ⟨i + 1, by go_num, HLT.out, hw.out⟩
          case measure => have := HLT.out; simp [RowKit.intOf]; omega
    · have hil : ¬ (i : Int) < (n : Int) := by omega
      clear hlt
      go_wp2_with fail
      go_loopw [4] (fun v wr => ∃ i : Nat, v = .int .i64 i ∧ i ≤ n + 1 ∧ Hid (WI w0 wr B xb ab ac (.slice m0 n cc0) n ps)) (fun v _ => n + 1 - (RowKit.intOf v).toNat)
      case atStart => exact ⟨0, rfl, by omega, hw.out⟩
      case round =>
        clear hw x0 hil hi
        obtain ⟨i, rfl, hi, hw⟩ := hrel
        have x0 := Blk.cell hw.out.bx 0
        simp only [List.getElem?_cons_zero] at x0
        have hi0 : (0 : Int) ≤ (i : Int) := by omega
        by_cases hlt : i < n + 1
        · have hil : (i : Int) < (n : Int) + 1 := by omega
          obtain ⟨A, c1, c2⟩ := hw.out.va
          have c3 := hw.out.ba
          have f0 := c1.froz (i * 13)
          obtain ⟨u0, g0⟩ : ∃ u, wr.cell? ⟨ab, i * 13, none⟩ = some u := ⟨_, (c1.cell _).trans (List.getElem?_eq_getElem (by omega))⟩
          have f1 := c1.froz (i * 13 + 1)
          obtain ⟨u1, g1⟩ : ∃ u, wr.cell? ⟨ab, i * 13 + 1, none⟩ = some u := ⟨_, (c1.cell _).trans (List.getElem?_eq_getElem (by omega))⟩
          have f2 := c1.froz (i * 13 + 2)
          obtain ⟨u2, g2⟩ : ∃ u, wr.cell? ⟨ab, i * 13 + 2, none⟩ = some u := ⟨_, (c1.cell _).trans (List.getElem?_eq_getElem (by omega))⟩
          have f3 := c1.froz (i * 13 + 3)
          obtain ⟨u3, g3⟩ : ∃ u, wr.cell? ⟨ab, i * 13 + 3, none⟩ = some u := ⟨_, (c1.cell _).trans (List.getElem?_eq_getElem (by omega))⟩
          have f4 := c1.froz (i * 13 + 4)
          obtain ⟨u4, g4⟩ : ∃ u, wr.cell? ⟨ab, i * 13 + 4, none⟩ = some u := ⟨_, (c1.cell _).trans (List.getElem?_eq_getElem (by omega))⟩
          have f5 := c1.froz (i * 13 + 5)
          obtain ⟨u5, g5⟩ : ∃ u, wr.cell? ⟨ab, i * 13 + 5, none⟩ = some u := ⟨_, (c1.cell _).trans (List.getElem?_eq_getElem (by omega))⟩
          have f6 := c1.froz (i * 13 + 6)
          obtain ⟨u6, g6⟩ : ∃ u, wr.cell? ⟨ab, i * 13 + 6, none⟩ = some u := ⟨_, (c1.cell _).trans (List.getElem?_eq_getElem (by omega))⟩
          have f7 := c1.froz (i * 13 + 7)
          obtain ⟨u7, g7⟩ : ∃ u, wr.cell? ⟨ab, i * 13 + 7, none⟩ = some u := ⟨_, (c1.cell _).trans (List.getElem?_eq_getElem (by omega))⟩
          have f8 := c1.froz (i * 13 + 8)
          obtain ⟨u8, g8⟩ : ∃ u, wr.cell? ⟨ab, i * 13 + 8, none⟩ = some u := ⟨_, (c1.cell _).trans (List.getElem?_eq_getElem (by omega))⟩
          have f9 := c1.froz (i * 13 + 9)
          obtain ⟨u9, g9⟩ : ∃ u, wr.cell? ⟨ab, i * 13 + 9, none⟩ = some u := ⟨_, (c1.cell _).trans (List.getElem?_eq_getElem (by omega))⟩
          have f10 := c1.froz (i * 13 + 10)
          obtain ⟨u10, g10⟩ : ∃ u, wr.cell? ⟨ab, i * 13 + 10, none⟩ = some u := ⟨_, (c1.cell _).trans (List.getElem?_eq_getElem (by omega))⟩
          have f11 := c1.froz (i * 13 + 11)
          obtain ⟨u11, g11⟩ : ∃ u, wr.cell? ⟨ab, i * 13 + 11, none⟩ = some u := ⟨_, (c1.cell _).trans (List.getElem?_eq_getElem (by omega))⟩
          have f12 := c1.froz (i * 13 + 12)
          obtain ⟨u12, g12⟩ : ∃ u, wr.cell? ⟨ab, i * 13 + 12, none⟩ = some u := ⟨_, (c1.cell _).trans (List.getElem?_eq_getElem (by omega))⟩
          have s0 := WI.set hw.out HB.out c1 (by decide) c3 (i * 13) (.int .i64 9)
          have b0 := Blk.set c1 (i * 13) (.int .i64 9)
          have s1 := WI.set s0 HB.out b0 (by decide) c3 (i * 13 + 1) (.int .i64 (i : Int))
          have b1 := Blk.set b0 (i * 13 + 1) (.int .i64 (i : Int))
          have s2 := WI.set s1 HB.out b1 (by decide) c3 (i * 13 + 2) (.int .i64 0)
          have b2 := Blk.set b1 (i * 13 + 2) (.int .i64 0)
          have s3 := WI.set s2 HB.out b2 (by decide) c3 (i * 13 + 3) (.int .i64 0)
          have b3 := Blk.set b2 (i * 13 + 3) (.int .i64 0)
          have s4 := WI.set s3 HB.out b3 (by decide) c3 (i * 13 + 4) (.int .i64 0)
          have b4 := Blk.set b3 (i * 13 + 4) (.int .i64 0)
          have s5 := WI.set s4 HB.out b4 (by decide) c3 (i * 13 + 5) (.string ⟨#[]⟩)
          have b5 := Blk.set b4 (i * 13 + 5) (.string ⟨#[]⟩)
          have s6 := WI.set s5 HB.out b5 (by decide) c3 (i * 13 + 6) (.int .i64 0)
          have b6 := Blk.set b5 (i * 13 + 6) (.int .i64 0)
          have s7 := WI.set s6 HB.out b6 (by decide) c3 (i * 13 + 7) (.int .i64 0)
          have b7 := Blk.set b6 (i * 13 + 7) (.int .i64 0)
          have s8 := WI.set s7 HB.out b7 (by decide) c3 (i * 13 + 8) (.int .i64 0)
          have b8 := Blk.set b7 (i * 13 + 8) (.int .i64 0)
          have s9 := WI.set s8 HB.out b8 (by decide) c3 (i * 13 + 9) (.int .i64 0)
          have b9 := Blk.set b8 (i * 13 + 9) (.int .i64 0)
          have s10 := WI.set s9 HB.out b9 (by decide) c3 (i * 13 + 10) (.int .i64 0)
          have b10 := Blk.set b9 (i * 13 + 10) (.int .i64 0)
          have s11 := WI.set s10 HB.out b10 (by decide) c3 (i * 13 + 11) (.int .i64 0)
          have b11 := Blk.set b10 (i * 13 + 11) (.int .i64 0)
          have s12 := WI.set s11 HB.out b11 (by decide) c3 (i * 13 + 12) (.slice none 0 0)
          have b12 := Blk.set b11 (i * 13 + 12) (.slice none 0 0)
          have SX := hid s12
          have HLT := hid hlt
          clear hw hlt c1 c2 c3 s0 s1 s2 s3 s4 s5 s6 s7 s8 s9 s10 s11 s12 b0 b1 b2 b3 b4 b5 b6 b7 b8 b9 b10 b11 b12
          go_wp2_with fail
          go_roundw
          case rel => exact ⟨i + 1, by go_num, HLT.out, SX.out⟩
          case measure => have := HLT.out; simp [RowKit.intOf]; omega
        · have hil : ¬ (i : Int) < (n : Int) + 1 := by omega
          clear hlt
          go_wp2_with fail
          exact bodyPost_end (results_none (fn := Tryd.f17) rfl _ _ _) rfl ⟨rfl, hw.out.on⟩
end Go.Proofs.YtmlhibcbgdhadaaDoor
namespace Go.Proofs.YtmlhibcbgdhadaaDoor
open Go.RowKit

set_option maxRecDepth 100000 in
set_option maxHeartbeats 8000000 in
theorem still_any {xs : List (Nd × Value)} {ad : Option Addr} {cap B C xb ab ac : Nat} {vc : Value} {ps : List Ln} (w : World) (hNL : NL w B ad xs) (hf : ∀ x ∈ xs, x.1.chs.length ≤ 2147483647) (hl : xs.length ≤ 2147483647) (hL : LM w C xb ab ac vc ps) (hps : ps.map (·.1) = nds xs) :
    Calls Tryd.prog 16 #[.pointer (some ⟨xb, 0, none⟩), .slice ad xs.length cap] w fun e w' => e = .returned (.bool true) ∧ Only [] w w' := by
  have hpl : ps.length = xs.length := by have := congrArg List.length hps; simpa using this
  have HNL := hid hNL
  have HF := hid hf
  have HL := hid hL
  have HPS := hid hps
  obtain ⟨n, hn⟩ : ∃ n, xs.length = n := ⟨_, rfl⟩
  have HN := hid hn
  rw [hn] at hl hpl ⊢
  have HPL := hid hpl
  have hst := hL.stop
  have hbx := hL.bx
  have c0 := Blk.cell hbx 0
  rw [hpl] at hst c0
  simp only [List.getElem?_cons_zero] at c0
  have hs1 := hst.2
  have hn0 : (0 : Int) ≤ (n : Int) := by omega
  clear hNL hf hL hps hn hbx hst
  go_enter Tryd.func16, Tryd.ntmps16
  go_wp2_with fail
  clear c0 hs1
  go_loopw [5] (fun i wr => ∃ k : Nat, i = .int .i64 k ∧ k ≤ n ∧ Only [] w wr) (fun i _ => n - (RowKit.intOf i).toNat)
  case atStart => exact ⟨0, rfl, by omega, Only.refl _ _⟩
  case round =>
    obtain ⟨k, rfl, hk, ho⟩ := hrel
    by_cases hlt : k < n
    · obtain ⟨x, hx⟩ := some_at (xs := xs) (i := k) (by rw [HN.out]; exact hlt)
      obtain ⟨p, hp⟩ := some_at (xs := ps) (i := k) (by rw [HPL.out]; exact hlt)
      have hpx : p.1 = x.1 := by
        have h1 : (ps.map (·.1))[k]? = some p.1 := by rw [List.getElem?_map, hp]; rfl
        rw [HPS.out, nds_get hx] at h1
        exact (Option.some.inj h1).symm
      obtain ⟨xn, xv⟩ := x
      obtain ⟨pn, cb, cc⟩ := p
      dsimp only at hpx
      subst hpx
      have hna := HNL.out.still ho
      have hLm := HL.out.still ho
      obtain ⟨xa, xc, hxv, hxs⟩ := hna.cv _ (List.mem_of_getElem? hx)
      dsimp only at hxv hxs
      subst hxv
      obtain ⟨lb, lo, rfl, -, lbw, ca⟩ := hna.at_ hx
      obtain ⟨vb, vcp, hvc, vbw, hcv, cbw, hcs, hcc⟩ := hLm.kept hp
      obtain ⟨ab2, ao2, hae, -, abw, cy⟩ := hLm.nl.at_ (show (ps.map ly)[k]? = some (ly (pn, cb, cc)) by rw [List.getElem?_map, hp]; rfl)
      injection hae with hae
      injection hae with hae hae2
      subst hae hae2
      have hcy := (hLm.nl.cv (ly (pn, cb, cc)) (List.mem_map_of_mem (List.mem_of_getElem? hp)))
      obtain ⟨ya, yc, hyv, hys⟩ := hcy
      have hlx := HF.out _ (List.mem_of_getElem? hx)
      dsimp only [ly, lc] at hcv hcs hcc cy hyv hys hlx
      subst hvc
      have hbxb := hLm.bx
      rw [HPL.out] at hbxb
      have bb := hbxb.lt
      have c0 := Blk.cell hbxb 0
      have c1 := Blk.cell hbxb 1
      simp only [List.getElem?_cons_zero, List.getElem?_cons_succ] at c0 c1
      injection hyv with hyv1 hyv2 hyv3
      subst hyv1 hyv3
      have HSN := hid (fun W (o : Only [] wr W) => sameNode_eq (xc := cc) (yc := xc) pn W (hys.keep o (by simp)) (hxs.sl.b.keep o (by simp)) (by omega))
      have HSC := hid (fun W (o : Only [] wr W) => sameChars_eq (ac := cc) (bc := xc) W (hys.keep o (by simp)) (hxs.sl.b.keep o (by simp)) (by omega))
      unfold ndc at HSN
      dsimp only at HSN
      obtain ⟨xm, hxm⟩ : ∃ xm, pn.chs.length = xm := ⟨_, rfl⟩
      rw [hxm] at HSN HSC hcv hcs hcc cy ca hlx
      have g0 : ∀ d os, (behind wr d os).cell? ⟨xb, 0, none⟩ = some _ := fun d os => (cell_behind bb d os).trans c0
      have gy0 : ∀ d os, (behind wr d os).cell? ⟨ab, k * 13, none⟩ = some _ := fun d os => (cell_behind abw d os).trans (by have := cy 0 _ rfl; rwa [Nat.zero_add] at this)
      have gx0 : ∀ d os, (behind wr d os).cell? ⟨lb, lo + k * 13, none⟩ = some _ := fun d os => (cell_behind lbw d os).trans (ca 0 _ rfl)
      have gy1 : ∀ d os, (behind wr d os).cell? ⟨ab, k * 13 + 1, none⟩ = some _ := fun d os => (cell_behind abw d os).trans (by have := cy 1 _ rfl; rwa [Nat.zero_add] at this)
      have gx1 : ∀ d os, (behind wr d os).cell? ⟨lb, lo + k * 13 + 1, none⟩ = some _ := fun d os => (cell_behind lbw d os).trans (ca 1 _ rfl)
      have gy2 : ∀ d os, (behind wr d os).cell? ⟨ab, k * 13 + 2, none⟩ = some _ := fun d os => (cell_behind abw d os).trans (by have := cy 2 _ rfl; rwa [Nat.zero_add] at this)
      have gx2 : ∀ d os, (behind wr d os).cell? ⟨lb, lo + k * 13 + 2, none⟩ = some _ := fun d os => (cell_behind lbw d os).trans (ca 2 _ rfl)
      have gy3 : ∀ d os, (behind wr d os).cell? ⟨ab, k * 13 + 3, none⟩ = some _ := fun d os => (cell_behind abw d os).trans (by have := cy 3 _ rfl; rwa [Nat.zero_add] at this)
      have gx3 : ∀ d os, (behind wr d os).cell? ⟨lb, lo + k * 13 + 3, none⟩ = some _ := fun d os => (cell_behind lbw d os).trans (ca 3 _ rfl)
      have gy4 : ∀ d os, (behind wr d os).cell? ⟨ab, k * 13 + 4, none⟩ = some _ := fun d os => (cell_behind abw d os).trans (by have := cy 4 _ rfl; rwa [Nat.zero_add] at this)
      have gx4 : ∀ d os, (behind wr d os).cell? ⟨lb, lo + k * 13 + 4, none⟩ = some _ := fun d os => (cell_behind lbw d os).trans (ca 4 _ rfl)
      have gy5 : ∀ d os, (behind wr d os).cell? ⟨ab, k * 13 + 5, none⟩ = some _ := fun d os => (cell_behind abw d os).trans (by have := cy 5 _ rfl; rwa [Nat.zero_add] at this)
      have gx5 : ∀ d os, (behind wr d os).cell? ⟨lb, lo + k * 13 + 5, none⟩ = some _ := fun d os => (cell_behind lbw d os).trans (ca 5 _ rfl)
      have gy6 : ∀ d os, (behind wr d os).cell? ⟨ab, k * 13 + 6, none⟩ = some _ := fun d os => (cell_behind abw d os).trans (by have := cy 6 _ rfl; rwa [Nat.zero_add] at this)
      have gx6 : ∀ d os, (behind wr d os).cell? ⟨lb, lo + k * 13 + 6, none⟩ = some _ := fun d os => (cell_behind lbw d os).trans (ca 6 _ rfl)
      have gy7 : ∀ d os, (behind wr d os).cell? ⟨ab, k * 13 + 7, none⟩ = some _ := fun d os => (cell_behind abw d os).trans (by have := cy 7 _ rfl; rwa [Nat.zero_add] at this)
      have gx7 : ∀ d os, (behind wr d os).cell? ⟨lb, lo + k * 13 + 7, none⟩ = some _ := fun d os => (cell_behind lbw d os).trans (ca 7 _ rfl)
      have gy8 : ∀ d os, (behind wr d os).cell? ⟨ab, k * 13 + 8, none⟩ = some _ := fun d os => (cell_behind abw d os).trans (by have := cy 8 _ rfl; rwa [Nat.zero_add] at this)
      have gx8 : ∀ d os, (behind wr d os).cell? ⟨lb, lo + k * 13 + 8, none⟩ = some _ := fun d os => (cell_behind lbw d os).trans (ca 8 _ rfl)
      have gy9 : ∀ d os, (behind wr d os).cell? ⟨ab, k * 13 + 9, none⟩ = some _ := fun d os => (cell_behind abw d os).trans (by have := cy 9 _ rfl; rwa [Nat.zero_add] at this)
      have gx9 : ∀ d os, (behind wr d os).cell? ⟨lb, lo + k * 13 + 9, none⟩ = some _ := fun d os => (cell_behind lbw d os).trans (ca 9 _ rfl)
      have gy10 : ∀ d os, (behind wr d os).cell? ⟨ab, k * 13 + 10, none⟩ = some _ := fun d os => (cell_behind abw d os).trans (by have := cy 10 _ rfl; rwa [Nat.zero_add] at this)
      have gx10 : ∀ d os, (behind wr d os).cell? ⟨lb, lo + k * 13 + 10, none⟩ = some _ := fun d os => (cell_behind lbw d os).trans (ca 10 _ rfl)
      have gy11 : ∀ d os, (behind wr d os).cell? ⟨ab, k * 13 + 11, none⟩ = some _ := fun d os => (cell_behind abw d os).trans (by have := cy 11 _ rfl; rwa [Nat.zero_add] at this)
      have gx11 : ∀ d os, (behind wr d os).cell? ⟨lb, lo + k * 13 + 11, none⟩ = some _ := fun d os => (cell_behind lbw d os).trans (ca 11 _ rfl)
      have gy12 : ∀ d os, (behind wr d os).cell? ⟨ab, k * 13 + 12, none⟩ = some _ := fun d os => (cell_behind abw d os).trans (by have := cy 12 _ rfl; rwa [Nat.zero_add] at this)
      have gx12 : ∀ d os, (behind wr d os).cell? ⟨lb, lo + k * 13 + 12, none⟩ = some _ := fun d os => (cell_behind lbw d os).trans (ca 12 _ rfl)
      have gs : ∀ d os, (behind wr d os).cell? ⟨cb, xm * 3, none⟩ = some (.int .i64 (-77)) := fun d os => (cell_behind cbw d os).trans hcs
      have hkl : (k : Int) < (n : Int) := by omega
      have hkl1 : k < n + 1 := by omega
      have hkl2 : (k : Int) < (n : Int) + 1 := by omega
      have hk0 : (0 : Int) ≤ (k : Int) := by omega
      have hxi : (xm : Int) + 1 - 1 = (xm : Int) := by omega
      have hxc : xm ≤ cc := by omega
      have hxc2 : (xm : Int) ≤ (cc : Int) := by omega
      have hx31 : (xm : Int) ≤ 2147483647 := by omega
      have HO := hid ho
      have HLT := hid hlt
      clear hx hp hna hLm hxs hys cy ca hbxb hlt ho hxm hcs
      go_wp2_with fail
      refine wp_region_behind (by kernel_rfl) (by kernel_rfl) ?_
      repeat (go_big_quiet_step ((first | (go_at_call 38; refine Calls.behind_of ((HSN.out _ (only_behind _ _ _)).mono fun _ _ h => ⟨h.1, h.2⟩)) | (go_at_call 39; refine Calls.behind_of ((HSC.out _ (only_behind _ _ _)).mono fun _ _ h => ⟨h.1, h.2⟩)))))
      refine wpQuiet_nil ?_
      intro _ hw'
      obtain ⟨⟨dq, osq⟩, hw''⟩ := hw'
      subst hw''
      go_wp2_with fail
      go_roundw
      case rel => exact ⟨k + 1, by go_num, HLT.out, HO.out.trans (only_behind _ _ _)⟩
      case measure => have := HLT.out; simp [RowKit.intOf]; omega
    · have hkd : decide (k < n) = false := decide_eq_false hlt
      have HO := hid ho
      clear ho hk
      go_wp2_with fail
      go_ret
      exact ⟨rfl, HO.out⟩
end Go.Proofs.YtmlhibcbgdhadaaDoor
