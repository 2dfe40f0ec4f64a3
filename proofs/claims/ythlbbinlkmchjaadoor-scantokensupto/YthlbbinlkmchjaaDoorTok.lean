/- The cutter's token. -/
import Derived.Test.YthlbbinlkmchjaaDoorVal
import Derived.Deep.RegionLaw
namespace Go.Proofs.YthlbbinlkmchjaaDoor
open Go.RowKit

theorem M.hold_good {m : M} (hw : m.why = 0) (h : m.holdOk 1 = true) : m.hold 1 = { m with nw := m.nw + 1, pk := max m.pk (m.nw + 1) } ∧ 1 ≤ m.cb - m.nw := by
  unfold M.holdOk chOk at h
  have h := of_decide_eq_true h
  unfold M.hold
  rw [if_neg (by omega), if_neg (by omega)]
  exact ⟨rfl, h.2.2⟩
theorem M.hold_bad {m : M} (hw : m.why = 0) (h : m.holdOk 1 = false) : m.hold 1 = { m with nw := m.cb, pk := m.cb, why := 21 } ∧ m.cb - m.nw < 1 := by
  unfold M.holdOk chOk at h
  have h := of_decide_eq_false h
  unfold M.hold
  rw [if_neg (by omega), if_pos (by omega)]
  exact ⟨rfl, by omega⟩
/-- a token's cells -/
def tkc (kd at_ en : Int) (nm vl : ByteArray) (em : Bool) (cv : Value) : List Value := [.int .i64 kd, .int .i64 at_, .int .i64 en, .string nm, .string vl, cv, .bool em]
theorem info48 : (Tryd.prog.info? 48).map (fun i => (i.zero, i.size, i.bytes)) = some (some (.agg #[.int .i64 0, .int .i64 0, .int .i64 0, .string ⟨#[]⟩, .string ⟨#[]⟩, .slice none 0 0, .bool false]), 7, 88) := by kernel_rfl
theorem info_parts {t : TypeId} {z : Value} {n b : Nat} (h : (Tryd.prog.info? t).map (fun i => (i.zero, i.size, i.bytes)) = some (some z, n, b)) : ∃ i, Tryd.prog.info? t = some i ∧ i.zero = some z ∧ i.size = n ∧ i.bytes = b := by
  rcases hi : Tryd.prog.info? t with _ | i
  · rw [hi] at h; cases h
  · rw [hi] at h
    simp only [Option.map_some, Option.some.injEq, Prod.mk.injEq] at h
    exact ⟨i, rfl, h.1, h.2.1, h.2.2⟩
/-- the blocks of a row -/
def ob (v : Value) : List Nat := v.ownBlock.toList
theorem mem_ob {v : Value} {b : Nat} : b ∈ ob v ↔ v.ownBlock = some b := by
  unfold ob
  rcases v.ownBlock with _ | c
  · simp
  · simp [eq_comm]
theorem one_slice {ad : Option Addr} {n c : Nat} : (Value.slice ad n c).oneCell' = true := rfl
set_option maxRecDepth 100000 in
set_option maxHeartbeats 8000000 in
theorem token_c {w : World} {cb mb B n : Nat} {s : ByteArray} {p : Nat} {tv cv : Value} {m : M} {xs : List Value} (h : Cu w cb mb s p tv m) (hrow : w.ownsRow B 48 7 tv n xs) (hB : B ≤ w.heap.size) (hcb : tv.ownBlock ≠ some cb) (hmb : tv.ownBlock ≠ some mb) (hn : n ≤ 1099511627776)
    (kd at_ en : Int) (nm vl : ByteArray) (em : Bool) (hcv : ∃ ad l c, cv = .slice ad l c) :
    Calls Tryd.prog 89 #[.pointer (some ⟨cb, 0, none⟩), .agg #[.int .i64 kd, .int .i64 at_, .int .i64 en, .string nm, .string vl, cv, .bool em]] w fun e w' =>
      (m.holdOk 1 = true → e = .returned (.bool true) ∧ (∃ tv', Cu w' cb mb s p tv' (m.hold 1) ∧ w'.ownsRow B 48 7 tv' (n + 1) (xs ++ tkc kd at_ p nm vl em cv) ∧ (tv'.ownBlock = tv.ownBlock ∨ ∃ b, tv'.ownBlock = some b ∧ w.heap.size ≤ b)) ∧ Only (cb :: mb :: ob tv) w w') ∧
      (m.holdOk 1 = false → e = .returned (.bool false) ∧ Cx w' cb mb s (m.hold 1) (21, 0) ∧ Only [cb, mb] w w') := by
  have HU := hid h
  have HW := hid h.why
  have HRW := hid hrow
  have hlts := h.c.lt
  have hltm := h.mt.lt
  have HNE := hid h.ne
  have HOK := hid (M.hold_ok h.ok 1)
  obtain ⟨cad, cl, cc, rfl⟩ := hcv
  have HH := hid (fun W (h : Blk W mb m.cells 68) => hold_any m HU.out.ok mb 1 W h)
  have hB0 := Blk.new w #[.int .i64 kd, .int .i64 at_, .int .i64 en, .string nm, .string vl, .slice cad cl cc, .bool em] 48 rfl
  have HB0 := hid hB0
  have c0 : (w.alloc (.cells #[.int .i64 kd, .int .i64 at_, .int .i64 en, .string nm, .string vl, .slice cad cl cc, .bool em] 48)).cell? ⟨cb, 0, none⟩ = some (.pointer (some ⟨mb, 0, none⟩)) := (h.alloc _).c.cell 0
  have HHO := hid (fun (h : m.holdOk 1 = true) => M.hold_good HW.out h)
  have HHB := hid (fun (h : m.holdOk 1 = false) => M.hold_bad HW.out h)
  have HCB := hid hcb
  have HMB := hid hmb
  clear hcb hmb h hrow hB0
  rcases hho : m.holdOk 1 with _ | _
  · have hwhy : (m.hold 1).why = 21 := by rw [(HHB.out hho).1]
    have HWHY := hid hwhy
    have HF := hid (fun W hc hm => refused_c (w := W) (cb := cb) (mb := mb) (s := s) (p := p) (v := tv) (m := m.hold 1) (F := (0, 0)) hc hm HNE.out HOK.out)
    rw [hho] at HH
    clear hho hwhy HHO HHB
    go_enter Tryd.func89, Tryd.ntmps89
    go_wp2_with fail
    refine (HH.out _ (HU.out.alloc _).mt).mono ?_
    rintro e w1 ⟨rfl, hm1, ho1⟩
    have hc1 := ho1.blk (HU.out.alloc _).c (by simpa using HNE.out)
    go_wp2_with fail
    refine (HF.out _ hc1 hm1).mono ?_
    rintro e w2 ⟨rfl, hx2, ho2⟩
    go_wp2
    go_ret
    rw [HWHY.out] at hx2
    exact ⟨fun h => (by cases h), fun _ => ⟨rfl, hx2, (Only.behind ((Only.refl [] w).alloc _) ho1.inr).trans ho2.inl⟩⟩
  · have hwhy : (m.hold 1).why = 0 := by rw [(HHO.out hho).1]; exact HW.out
    have HWHY := hid hwhy
    rw [hho] at HH
    clear hho hwhy HHO HHB
    obtain ⟨i48, hi48, z480, z481, z482⟩ := info_parts info48
    go_enter Tryd.func89, Tryd.ntmps89
    go_wp2_with fail
    refine (HH.out _ (HU.out.alloc _).mt).mono ?_
    rintro e w1 ⟨rfl, hm1, ho1⟩
    have hc1 := ho1.blk (HU.out.alloc _).c (by simpa using HNE.out)
    have hb1 := ho1.blk HB0.out (by simp; omega)
    have HC1 := hid hc1
    have HM1 := hid hm1
    have HB1 := hid hb1
    have HO1 := hid (Only.behind ((Only.refl [] w).alloc (.cells #[.int .i64 kd, .int .i64 at_, .int .i64 en, .string nm, .string vl, .slice cad cl cc, .bool em] 48)) ho1)
    have c2 : w1.cell? ⟨cb, 2, none⟩ = some (.int .i64 p) := hc1.cell 2
    have hbf := hb1.froz 2
    have hbc := hb1.cell 2
    simp only [List.getElem?_cons_zero, List.getElem?_cons_succ] at hbc
    clear hc1 hm1 hb1 ho1
    go_wp2_with fail
    obtain ⟨g, hg⟩ : ∃ g, w.heap.size = g := ⟨_, rfl⟩
    rw [hg] at HB1 hbf hbc ⊢
    have HB2 : Hid (Blk (w1.setCell ⟨g, 2, none⟩ (.int .i64 p)) g (tkc kd at_ p nm vl em (.slice cad cl cc)) 48) := hid (HB1.out.set 2 _)
    have HC2 := hid (HC1.out.other ⟨g, 2, none⟩ (.int .i64 p) (by simp; omega))
    have HM2 := hid (HM1.out.other ⟨g, 2, none⟩ (.int .i64 p) (by simp; omega))
    have HO2 : Hid (Only [mb] w (w1.setCell ⟨g, 2, none⟩ (.int .i64 p))) := hid (HO1.out.set (p := ⟨g, 2, none⟩) (.inr (by simp; omega)) _)
    have hrow2 := row_only HRW.out HO2.out (by
      intro b hb hm
      simp at hm
      subst hm
      exact HMB.out hb)
    have HR2 := hid hrow2
    obtain ⟨W, hW⟩ : ∃ W, w1.setCell ⟨g, 2, none⟩ (.int .i64 p) = W := ⟨_, rfl⟩
    rw [hW] at HB2 HC2 HM2 HO2 HR2 hrow2 ⊢
    clear hW hbf hbc c2 hrow2
    have d3 : W.cell? ⟨cb, 3, none⟩ = some tv := HC2.out.cell 3
    have f3 := HC2.out.froz 3
    have b0 := HB2.out.cell 0
    have b1 := HB2.out.cell 1
    have b2 := HB2.out.cell 2
    have b3 := HB2.out.cell 3
    have b4 := HB2.out.cell 4
    have b5 := HB2.out.cell 5
    have b6 := HB2.out.cell 6
    simp only [tkc, List.getElem?_cons_zero, List.getElem?_cons_succ] at b0 b1 b2 b3 b4 b5 b6
    go_wp2_with fail
    have hn1 : n + 1 ≤ maxLen := by unfold maxLen; omega
    have hn2 : (n + 1) * 88 ≤ 140737488355328 := by omega
    have hbt : ∀ u ∈ tkc kd at_ p nm vl em (.slice cad cl cc), u.oneCell' = true := by
      intro u hu
      simp only [tkc, List.mem_cons, List.not_mem_nil, or_false] at hu
      rcases hu with rfl | rfl | rfl | rfl | rfl | rfl | rfl <;> rfl
    have d3b : ∀ o, (W.alloc o).cell? ⟨cb, 3, none⟩ = some tv := fun o => (cell_past W o cb 3 HC2.out.lt).trans d3
    have mf : Tryd.prog.follows .mixedOrders = true := by kernel_rfl
    have hBW : B ≤ W.heap.size := Nat.le_trans hB HO2.out.size
    go_region_law (refine step_append_sl _ rfl _ _ 32 rfl B 48 i48 _ 7 88 Tryd.underlying32 hi48 z480 z481 z482 rfl (by decide) tv n xs (by rfl) (row_only HR2.out (((Only.refl [] W).drew).alloc (.cells (tkc kd at_ p nm vl em (.slice cad cl cc)).toArray 48)) (by simp)) (some ⟨W.heap.size, 0, none⟩) 1 1 (tkc kd at_ p nm vl em (.slice cad cl cc)) (by rfl) (by rfl) (sl_newest W.drew _ 48 rfl) hbt hn1 hn2 (by simp; omega) ?_; intro tv' w6 hown6 hg6; have hrr := row_reads hown6; obtain ⟨ad', cap', rfl, -, -⟩ := hrr; have hW7 := ((HC2.out.drew).alloc (.cells (tkc kd at_ p nm vl em (.slice cad cl cc)).toArray 48)); have HC6 : Hid (Blk w6 cb (ccells mb s p tv (0, 0)) 64) := hid ((hg6.grown.block cb hW7.lt (fun e => HCB.out e.symm)).trans hW7); have hM7 := ((HM2.out.drew).alloc (.cells (tkc kd at_ p nm vl em (.slice cad cl cc)).toArray 48)); have HM6 : Hid (Blk w6 mb (m.hold 1).cells 68) := hid ((hg6.grown.block mb hM7.lt (fun e => HMB.out e.symm)).trans hM7); have d6 : w6.cell? ⟨cb, 3, none⟩ = some tv := HC6.out.cell 3; have f6 := HC6.out.froz 3; have HOW6 := hid hown6; have HG6 := hid hg6; clear hown6 hg6 hW7 hM7)
    all_goals
      go_wp2
      go_ret
      have hcbx : (Value.slice ad' (n + 1) cap').ownBlock ≠ some cb := by
        rcases HG6.out with ⟨h1, _⟩ | ⟨h1, _⟩
        · rw [h1]; exact HCB.out
        · rw [h1]
          intro e
          have h2 := Option.some.inj e
          have h3 := HC2.out.lt
          simp at h2
          omega
      have HO7 : Only (cb :: mb :: ob tv) w w6 := only_grow (((HO2.out.mono (fun _ _ h => by simp at h; simp [h])).drew).alloc _) HG6.out.grown (fun b hb => .inl (by simp [mem_ob, hb]))
      refine ⟨fun _ => ⟨rfl, ⟨_, ⟨HC6.out.set 3 _, HM6.out.other _ _ (fun e => HNE.out e.symm), HNE.out, HOK.out, HWHY.out, HU.out.le, HU.out.sz⟩, row_only HOW6.out ((Only.refl [cb] w6).set (p := ⟨cb, 3, none⟩) (.inl (by simp)) _) (fun b hb hm => by simp at hm; subst hm; exact hcbx hb), ?_⟩, HO7.set (p := ⟨cb, 3, none⟩) (.inl (by simp)) _⟩, fun h => (by cases h)⟩
      rcases HG6.out with ⟨h1, _⟩ | ⟨h1, _⟩
      · exact .inl h1
      · refine .inr ⟨_, h1, ?_⟩
        have := HO2.out.size
        simp
        omega
end Go.Proofs.YthlbbinlkmchjaaDoor
