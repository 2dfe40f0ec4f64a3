/- The cutter's character. -/
import Derived.Test.YthlbbinlkmchjaaDoorEnt
namespace Go.Proofs.YthlbbinlkmchjaaDoor
open Go.RowKit

def chV (x p q : Int) : Value := .agg #[.int .i64 x, .int .i64 p, .int .i64 q]
def evC (p : Nat) (x q : Nat) (z : Value) : Prop := z = chV x p q
def ezC (z : Value) : Prop := ∃ i a b : Int, z = chV i a b
theorem Tc.drewN {w : World} (h : Tc w) (n : Nat) : Tc (w.drewN n) := h.only (only_drewN w n) (by simp)
theorem Tc.alloc {w : World} (h : Tc w) (o : Obj) : Tc (w.alloc o) := h.only ((Only.refl [] w).alloc o) (by simp)

set_option maxRecDepth 100000 in
set_option maxHeartbeats 4000000 in
theorem character_c {w : World} {cb mb : Nat} {s : ByteArray} {p : Nat} {v : Value} {m : M} (h : Cu w cb mb s p v m) (hT : Tc w) (h3 : 3 ≤ cb ∧ 3 ≤ mb) (hp : p < s.size) :
    Calls Tryd.prog 88 #[.pointer (some ⟨cb, 0, none⟩)] w fun e w' => PV (evC p) ezC w' cb mb s v (fo s m p chrP) e ∧ Only [cb, mb] w w' := by
  have HU := hid h
  have HT := hid hT
  have HC := hid h3
  have hlt := h.c.lt
  have hltm := h.mt.lt
  have hncb : ¬ cb = w.heap.size := by omega
  have hncb2 : ¬ w.heap.size = cb := by omega
  have c2 : w.cell? ⟨cb, 2, none⟩ = some (.int .i64 p) := h.c.cell 2
  obtain ⟨a, ha⟩ : ∃ a, aheadI (rest s p).head? = a := ⟨_, rfl⟩
  have HA := hid (fun W (h : Cu W cb mb s p v m) => (by rw [← ha]; exact ahead_any h : Calls Tryd.prog 60 #[.pointer (some ⟨cb, 0, none⟩)] W fun e w' => e = .returned (.int .i64 a) ∧ ∃ n, w' = W.drewN n))
  have hout : (a = 38 ∧ fo s m p chrP = fo s m p entP) ∨ (¬ a = 38 ∧ fo s m p chrP = fo s m p plainP) := by
    unfold chrP
    rw [fo_look]
    rcases hh : (rest s p).head? with _ | b
    · rw [hh] at ha; simp only [aheadI] at ha; exact .inr ⟨by omega, by rw [if_neg (by simp)]⟩
    · rw [hh] at ha
      simp only [aheadI] at ha
      by_cases hb : b = 38
      · exact .inl ⟨by omega, by rw [hb, if_pos rfl]⟩
      · exact .inr ⟨by omega, by rw [if_neg (by simpa using hb)]⟩
  clear ha h hT h3
  rcases hout with ⟨h38, ho⟩ | ⟨h38, ho⟩
  · subst h38
    rw [ho]
    clear ho
    rcases hw : fo s m p entP with ⟨m1, F | ⟨x, q⟩⟩
    · have HCH := hid (fun W (h : Cu W cb mb s p v m) (hT : Tc W) => (by have := entity_c h hT HC.out hp; rw [hw] at this; exact this : Calls Tryd.prog 99 #[.pointer (some ⟨cb, 0, none⟩)] W fun e w' => ((∃ z, e = .returned (.tuple #[z, .bool false]) ∧ ezI z) ∧ Cx w' cb mb s m1 F) ∧ Only [cb, mb] W w'))
      clear hw
      go_enter Tryd.func88, Tryd.ntmps88
      go_wp2_with fail
      refine (HA.out _ (HU.out.alloc _)).mono ?_
      rintro e w1 ⟨rfl, n, rfl⟩
      go_wp2_with fail
      refine (HCH.out _ ((HU.out.alloc _).drewN n) ((HT.out.alloc _).drewN n)).mono ?_
      rintro e w2 ⟨⟨⟨z, rfl, i, rfl, -, -⟩, hx⟩, hol⟩
      have hB0 := ((Blk.new w #[.int .i64 0, .int .i64 0, .int .i64 0] 50 rfl).drewN n)
      have hB := hid (hol.blk hB0 (by simp; omega))
      obtain ⟨p', v', hcb⟩ := hx.c
      have d2 : w2.cell? ⟨cb, 2, none⟩ = some (.int .i64 p') := hcb.cell 2
      have e0 := hB.out.cell 0
      have e1 := hB.out.cell 1
      have e2 := hB.out.cell 2
      have f0 := hB.out.froz 0
      have f1 := hB.out.froz 1
      have f2 := hB.out.froz 2
      simp only [List.getElem?_cons_zero, List.getElem?_cons_succ] at e0 e1 e2
      have HX := hid hx
      have HOL := hid hol
      have HCB := hid hcb
      clear hx hol hB0 hcb
      go_wp2_with fail
      have hB2 := ((hB.out.set 0 (.int .i64 i)).set 1 (.int .i64 p)).set 2 (.int .i64 p')
      have g0 := hB2.cell 0
      have g1 := hB2.cell 1
      have g2 := hB2.cell 2
      simp only [List.set_cons_zero, List.set_cons_succ, List.getElem?_cons_zero, List.getElem?_cons_succ] at g0 g1 g2
      refine bodyPost_ret (v := .tuple #[chV i p p', .bool false]) ?_ rfl ⟨⟨⟨_, rfl, _, _, _, rfl⟩, ?_⟩, ?_⟩
      · simp [results, Tryd.f88, go_sem, g0, g1, g2, chV]
      · exact ⟨⟨p', v', ((HCB.out.other _ _ hncb).other _ _ hncb).other _ _ hncb⟩, ((HX.out.mt.other _ _ (by simp; omega)).other _ _ (by simp; omega)).other _ _ (by simp; omega), HX.out.ok⟩
      · exact ((((Only.behind (((Only.refl [] w).alloc _).drewN n) HOL.out).set (.inr (Nat.le_refl _)) _).set (.inr (Nat.le_refl _)) _).set (.inr (Nat.le_refl _)) _)
    · have HCH := hid (fun W (h : Cu W cb mb s p v m) (hT : Tc W) => (by have := entity_c h hT HC.out hp; rw [hw] at this; exact this : Calls Tryd.prog 99 #[.pointer (some ⟨cb, 0, none⟩)] W fun e w' => ((∃ z, e = .returned (.tuple #[z, .bool true]) ∧ evI x q z) ∧ Cu w' cb mb s q v m1) ∧ Only [cb, mb] W w'))
      clear hw
      go_enter Tryd.func88, Tryd.ntmps88
      go_wp2_with fail
      refine (HA.out _ (HU.out.alloc _)).mono ?_
      rintro e w1 ⟨rfl, n, rfl⟩
      go_wp2_with fail
      refine (HCH.out _ ((HU.out.alloc _).drewN n) ((HT.out.alloc _).drewN n)).mono ?_
      rintro e w2 ⟨⟨⟨z, rfl, rfl⟩, hx⟩, hol⟩
      have hB0 := ((Blk.new w #[.int .i64 0, .int .i64 0, .int .i64 0] 50 rfl).drewN n)
      have hB := hid (hol.blk hB0 (by simp; omega))
      have d2 : w2.cell? ⟨cb, 2, none⟩ = some (.int .i64 q) := hx.c.cell 2
      have e0 := hB.out.cell 0
      have e1 := hB.out.cell 1
      have e2 := hB.out.cell 2
      have f0 := hB.out.froz 0
      have f1 := hB.out.froz 1
      have f2 := hB.out.froz 2
      simp only [List.getElem?_cons_zero, List.getElem?_cons_succ] at e0 e1 e2
      have HX := hid hx
      have HOL := hid hol
      clear hx hol hB0
      go_wp2_with fail
      have hB2 := ((hB.out.set 0 (.int .i64 x)).set 1 (.int .i64 p)).set 2 (.int .i64 q)
      have g0 := hB2.cell 0
      have g1 := hB2.cell 1
      have g2 := hB2.cell 2
      simp only [List.set_cons_zero, List.set_cons_succ, List.getElem?_cons_zero, List.getElem?_cons_succ] at g0 g1 g2
      refine bodyPost_ret (v := .tuple #[chV x p q, .bool true]) ?_ rfl ⟨⟨⟨_, rfl, rfl⟩, ?_⟩, ?_⟩
      · simp [results, Tryd.f88, go_sem, g0, g1, g2, chV]
      · exact ⟨((HX.out.c.other _ _ hncb).other _ _ hncb).other _ _ hncb, ((HX.out.mt.other _ _ (by simp; omega)).other _ _ (by simp; omega)).other _ _ (by simp; omega), HX.out.ne, HX.out.ok, HX.out.why, HX.out.le, HX.out.sz⟩
      · exact ((((Only.behind (((Only.refl [] w).alloc _).drewN n) HOL.out).set (.inr (Nat.le_refl _)) _).set (.inr (Nat.le_refl _)) _).set (.inr (Nat.le_refl _)) _)
  · skip
    rw [ho]
    clear ho
    rcases hw : fo s m p plainP with ⟨m1, F | ⟨x, q⟩⟩
    · have HCH := hid (fun W (h : Cu W cb mb s p v m) (hT : Tc W) => (by have := plain_c h hT.tb hp; rw [hw] at this; exact this : Calls Tryd.prog 100 #[.pointer (some ⟨cb, 0, none⟩)] W fun e w' => ((∃ z, e = .returned (.tuple #[z, .bool false]) ∧ ezI z) ∧ Cx w' cb mb s m1 F) ∧ Only [cb, mb] W w'))
      clear hw
      go_enter Tryd.func88, Tryd.ntmps88
      go_wp2_with fail
      refine (HA.out _ (HU.out.alloc _)).mono ?_
      rintro e w1 ⟨rfl, n, rfl⟩
      go_wp2_with fail
      refine (HCH.out _ ((HU.out.alloc _).drewN n) ((HT.out.alloc _).drewN n)).mono ?_
      rintro e w2 ⟨⟨⟨z, rfl, i, rfl, -, -⟩, hx⟩, hol⟩
      have hB0 := ((Blk.new w #[.int .i64 0, .int .i64 0, .int .i64 0] 50 rfl).drewN n)
      have hB := hid (hol.blk hB0 (by simp; omega))
      obtain ⟨p', v', hcb⟩ := hx.c
      have d2 : w2.cell? ⟨cb, 2, none⟩ = some (.int .i64 p') := hcb.cell 2
      have e0 := hB.out.cell 0
      have e1 := hB.out.cell 1
      have e2 := hB.out.cell 2
      have f0 := hB.out.froz 0
      have f1 := hB.out.froz 1
      have f2 := hB.out.froz 2
      simp only [List.getElem?_cons_zero, List.getElem?_cons_succ] at e0 e1 e2
      have HX := hid hx
      have HOL := hid hol
      have HCB := hid hcb
      clear hx hol hB0 hcb
      go_wp2_with fail
      have hB2 := ((hB.out.set 0 (.int .i64 i)).set 1 (.int .i64 p)).set 2 (.int .i64 p')
      have g0 := hB2.cell 0
      have g1 := hB2.cell 1
      have g2 := hB2.cell 2
      simp only [List.set_cons_zero, List.set_cons_succ, List.getElem?_cons_zero, List.getElem?_cons_succ] at g0 g1 g2
      refine bodyPost_ret (v := .tuple #[chV i p p', .bool false]) ?_ rfl ⟨⟨⟨_, rfl, _, _, _, rfl⟩, ?_⟩, ?_⟩
      · simp [results, Tryd.f88, go_sem, g0, g1, g2, chV]
      · exact ⟨⟨p', v', ((HCB.out.other _ _ hncb).other _ _ hncb).other _ _ hncb⟩, ((HX.out.mt.other _ _ (by simp; omega)).other _ _ (by simp; omega)).other _ _ (by simp; omega), HX.out.ok⟩
      · exact ((((Only.behind (((Only.refl [] w).alloc _).drewN n) HOL.out).set (.inr (Nat.le_refl _)) _).set (.inr (Nat.le_refl _)) _).set (.inr (Nat.le_refl _)) _)
    · have HCH := hid (fun W (h : Cu W cb mb s p v m) (hT : Tc W) => (by have := plain_c h hT.tb hp; rw [hw] at this; exact this : Calls Tryd.prog 100 #[.pointer (some ⟨cb, 0, none⟩)] W fun e w' => ((∃ z, e = .returned (.tuple #[z, .bool true]) ∧ evI x q z) ∧ Cu w' cb mb s q v m1) ∧ Only [cb, mb] W w'))
      clear hw
      go_enter Tryd.func88, Tryd.ntmps88
      go_wp2_with fail
      refine (HA.out _ (HU.out.alloc _)).mono ?_
      rintro e w1 ⟨rfl, n, rfl⟩
      go_wp2_with fail
      refine (HCH.out _ ((HU.out.alloc _).drewN n) ((HT.out.alloc _).drewN n)).mono ?_
      rintro e w2 ⟨⟨⟨z, rfl, rfl⟩, hx⟩, hol⟩
      have hB0 := ((Blk.new w #[.int .i64 0, .int .i64 0, .int .i64 0] 50 rfl).drewN n)
      have hB := hid (hol.blk hB0 (by simp; omega))
      have d2 : w2.cell? ⟨cb, 2, none⟩ = some (.int .i64 q) := hx.c.cell 2
      have e0 := hB.out.cell 0
      have e1 := hB.out.cell 1
      have e2 := hB.out.cell 2
      have f0 := hB.out.froz 0
      have f1 := hB.out.froz 1
      have f2 := hB.out.froz 2
      simp only [List.getElem?_cons_zero, List.getElem?_cons_succ] at e0 e1 e2
      have HX := hid hx
      have HOL := hid hol
      clear hx hol hB0
      go_wp2_with fail
      have hB2 := ((hB.out.set 0 (.int .i64 x)).set 1 (.int .i64 p)).set 2 (.int .i64 q)
      have g0 := hB2.cell 0
      have g1 := hB2.cell 1
      have g2 := hB2.cell 2
      simp only [List.set_cons_zero, List.set_cons_succ, List.getElem?_cons_zero, List.getElem?_cons_succ] at g0 g1 g2
      refine bodyPost_ret (v := .tuple #[chV x p q, .bool true]) ?_ rfl ⟨⟨⟨_, rfl, rfl⟩, ?_⟩, ?_⟩
      · simp [results, Tryd.f88, go_sem, g0, g1, g2, chV]
      · exact ⟨((HX.out.c.other _ _ hncb).other _ _ hncb).other _ _ hncb, ((HX.out.mt.other _ _ (by simp; omega)).other _ _ (by simp; omega)).other _ _ (by simp; omega), HX.out.ne, HX.out.ok, HX.out.why, HX.out.le, HX.out.sz⟩
      · exact ((((Only.behind (((Only.refl [] w).alloc _).drewN n) HOL.out).set (.inr (Nat.le_refl _)) _).set (.inr (Nat.le_refl _)) _).set (.inr (Nat.le_refl _)) _)
end Go.Proofs.YthlbbinlkmchjaaDoor
