/- fault.Of, fault.Error and Located's Error as contracts. -/
import Derived.Test.YtnmaoodghbkmcaaDoorOf
import Derived.WalkSpells
import Derived.WalkLawsBesides
namespace Go.Proofs.YtnmaoodghbkmcaaDoor
open Go.RowKit Go.Extern.Stop Go.Stop Go.Extern

set_option maxHeartbeats 2000000 in
theorem Of_nil (w : World) : Calls Tryd.prog 13 #[.nilIface] w fun e w' => e = .returned (.tuple #[.agg #[.int .i64 0, .int .i64 0], .bool false]) ∧ Only [] w w' := by
  go_enter Tryd.func13, Tryd.ntmps13
  go_wp2_with fail
  refine (find_nil _).mono ?_
  rintro e w1 ⟨rfl, ho⟩
  have HR : Hid (Blk w1 w.heap.size [.int .i64 0, .int .i64 0] 33) := ho.blk (Blk.new _ _ _ rfl) (by simp)
  have HO : Hid (Only [] w w1) := ((Only.refl _ _).alloc _).trans ho
  have r0 := HR.out.cell 0
  have r1 := HR.out.cell 1
  have f0 := HR.out.froz 0
  have f1 := HR.out.froz 1
  clear ho
  go_wp2
  have HS : Hid (Only [] w ((w1.setCell ⟨w.heap.size, 0, none⟩ (.int .i64 0)).setCell ⟨w.heap.size, 1, none⟩ (.int .i64 0))) := (HO.out.set (.inr (Nat.le_refl _)) _).set (.inr (Nat.le_refl _)) _
  have HZ := (HR.out.set 0 (.int .i64 0)).set 1 (.int .i64 0)
  obtain ⟨W2, hW2⟩ : ∃ W2, ((w1.setCell ⟨w.heap.size, 0, none⟩ (.int .i64 0)).setCell ⟨w.heap.size, 1, none⟩ (.int .i64 0)) = W2 := ⟨_, rfl⟩
  rw [hW2] at HS HZ ⊢
  clear hW2 r0 r1 f0 f1
  have z0 : W2.cell? ⟨w.heap.size, 0, none⟩ = some (.int .i64 0) := HZ.cell 0
  have z1 : W2.cell? ⟨w.heap.size, 1, none⟩ = some (.int .i64 0) := HZ.cell 1
  clear HZ HO HR
  refine bodyPost_ret (v := .tuple #[.agg #[.int .i64 0, .int .i64 0], .bool false]) ?_ rfl ⟨rfl, HS.out⟩
  simp [results, Tryd.results13, go_sem, z0, z1]

set_option maxHeartbeats 2000000 in
theorem Of_none {A : Nat → Addr} {w : World} {E : Value} {d : Nat} (hG : Gl A w) (hch : Cw E none d) : Calls Tryd.prog 13 #[E] w fun e w' => e = .returned (.tuple #[.agg #[.int .i64 0, .int .i64 0], .bool false]) ∧ Only [] w w' := by
  have HG : Hid (Gl A w) := hG
  clear hG
  go_enter Tryd.func13, Tryd.ntmps13
  go_wp2_with fail
  refine (find_none (A := A) (HG.out.only ((Only.refl _ _).alloc _)) hch).mono ?_
  rintro e w1 ⟨rfl, ho⟩
  have HR : Hid (Blk w1 w.heap.size [.int .i64 0, .int .i64 0] 33) := ho.blk (Blk.new _ _ _ rfl) (by simp)
  have HO : Hid (Only [] w w1) := ((Only.refl _ _).alloc _).trans ho
  have r0 := HR.out.cell 0
  have r1 := HR.out.cell 1
  have f0 := HR.out.froz 0
  have f1 := HR.out.froz 1
  clear ho
  go_wp2
  have HS : Hid (Only [] w ((w1.setCell ⟨w.heap.size, 0, none⟩ (.int .i64 0)).setCell ⟨w.heap.size, 1, none⟩ (.int .i64 0))) := (HO.out.set (.inr (Nat.le_refl _)) _).set (.inr (Nat.le_refl _)) _
  have HZ := (HR.out.set 0 (.int .i64 0)).set 1 (.int .i64 0)
  obtain ⟨W2, hW2⟩ : ∃ W2, ((w1.setCell ⟨w.heap.size, 0, none⟩ (.int .i64 0)).setCell ⟨w.heap.size, 1, none⟩ (.int .i64 0)) = W2 := ⟨_, rfl⟩
  rw [hW2] at HS HZ ⊢
  clear hW2 r0 r1 f0 f1
  have z0 : W2.cell? ⟨w.heap.size, 0, none⟩ = some (.int .i64 0) := HZ.cell 0
  have z1 : W2.cell? ⟨w.heap.size, 1, none⟩ = some (.int .i64 0) := HZ.cell 1
  clear HZ HO HR
  refine bodyPost_ret (v := .tuple #[.agg #[.int .i64 0, .int .i64 0], .bool false]) ?_ rfl ⟨rfl, HS.out⟩
  simp [results, Tryd.results13, go_sem, z0, z1]

set_option maxHeartbeats 2000000 in
theorem Of_some {A : Nat → Addr} {w : World} {E : Value} {p d : Nat} {at_ k : Int} (hG : Gl A w) (hch : Cw E (some p) d) (hb : Blk w p [.int .i64 at_, .int .i64 k] 39) :
    Calls Tryd.prog 13 #[E] w fun e w' => e = .returned (.tuple #[.agg #[.int .i64 k, .int .i64 at_], .bool true]) ∧ Only [] w w' := by
  have HG : Hid (Gl A w) := hG
  clear hG
  go_enter Tryd.func13, Tryd.ntmps13
  go_wp2_with fail
  refine (find_some (A := A) (HG.out.only ((Only.refl _ _).alloc _)) hch).mono ?_
  rintro e w1 ⟨rfl, ho⟩
  have HR : Hid (Blk w1 w.heap.size [.int .i64 0, .int .i64 0] 33) := ho.blk (Blk.new _ _ _ rfl) (by simp)
  have HO : Hid (Only [] w w1) := ((Only.refl _ _).alloc _).trans ho
  have c0 := (HO.out.blk hb (by simp)).cell 0
  have c1 := (HO.out.blk hb (by simp)).cell 1
  have r0 := HR.out.cell 0
  have r1 := HR.out.cell 1
  have f0 := HR.out.froz 0
  have f1 := HR.out.froz 1
  have hpne : ¬ p = w.heap.size := by have := hb.lt; omega
  clear hb ho
  go_wp2
  go_region
  have HS : Hid (Only [] w ((w1.setCell ⟨w.heap.size, 0, none⟩ (.int .i64 k)).setCell ⟨w.heap.size, 1, none⟩ (.int .i64 at_)).drew) := ((HO.out.set (.inr (Nat.le_refl _)) _).set (.inr (Nat.le_refl _)) _).drew
  have HZ := ((HR.out.set 0 (.int .i64 k)).set 1 (.int .i64 at_)).drew
  obtain ⟨W2, hW2⟩ : ∃ W2, ((w1.setCell ⟨w.heap.size, 0, none⟩ (.int .i64 k)).setCell ⟨w.heap.size, 1, none⟩ (.int .i64 at_)).drew = W2 := ⟨_, rfl⟩
  rw [hW2] at HS HZ ⊢
  clear hW2 r0 r1 f0 f1 c0 c1
  have z0 : W2.cell? ⟨w.heap.size, 0, none⟩ = some (.int .i64 k) := HZ.cell 0
  have z1 : W2.cell? ⟨w.heap.size, 1, none⟩ = some (.int .i64 at_) := HZ.cell 1
  clear HZ HO HR
  go_wp2
  refine bodyPost_ret (v := .tuple #[.agg #[.int .i64 k, .int .i64 at_], .bool true]) ?_ rfl ⟨rfl, HS.out⟩
  simp [results, Tryd.results13, go_sem, z0, z1]

/-- fault.Error -/
theorem Error_zero (at_ : Int) (w : World) : Calls Tryd.prog 11 #[.agg #[.int .i64 0, .int .i64 at_]] w fun e w' => e = .returned .nilIface ∧ Only [] w w' := by
  go_enter Tryd.func11, Tryd.ntmps11
  go_wp2
  go_ret
  exact ⟨rfl, (Only.refl _ _).alloc _⟩
theorem Error_any (k at_ : Int) (hk : ¬ k = 0) (w : World) : Calls Tryd.prog 11 #[.agg #[.int .i64 k, .int .i64 at_]] w fun e w' => e = .returned (.iface 36 (.pointer (some ⟨w.heap.size + 1, 0, none⟩))) ∧ Blk w' (w.heap.size + 1) [.int .i64 at_, .int .i64 k] 39 ∧ Only [] w w' := by
  go_enter Tryd.func11, Tryd.ntmps11
  go_wp2
  go_ret
  exact ⟨rfl, Blk.new _ _ _ (by simp), ((Only.refl _ _).alloc _).alloc _⟩

set_option maxRecDepth 100000 in
theorem itoa12 (w : World) : Calls Tryd.prog 51 #[.int .i64 12] w fun e w' => e = .returned (.string { data := #[49, 50] }) ∧ w' = w := by
  go_enter Tryd.func51, Tryd.ntmps51
  go_wp2
  go_ret
  exact ⟨rfl, rfl⟩

set_option maxHeartbeats 1000000 in
theorem text_shown {A : Nat → Addr} {w : World} {p : Nat} (hG : Gl A w) (hb : Blk w p [.int .i64 12, .int .i64 40] 39) :
    Calls Tryd.prog 50 #[.pointer (some ⟨p, 0, none⟩)] w fun e w' => e = .returned (.string { data := #[98, 121, 116, 101, 32, 97, 116, 32, 49, 50] }) ∧ Only [] w w' := by
  have c1 := hb.cell 1
  have HB : Hid (Blk w p [.int .i64 12, .int .i64 40] 39) := hb
  have HG : Hid (Gl A w) := hG
  clear hG hb
  go_enter Tryd.func50, Tryd.ntmps50
  go_wp2_with fail
  refine (kind_any A 40 _ HG.out).mono ?_
  rintro e w' ⟨rfl, rfl⟩
  go_wp2_with fail
  refine (name_any A 40 _).mono ?_
  rintro e w1 ⟨rfl, ho⟩
  have hn : nameOf 40 = { data := #[98, 121, 116, 101] } := rfl
  rw [hn]
  have c0 := (ho.blk HB.out (by simp)).cell 0
  clear hn c1
  go_wp2_with fail
  refine (itoa12 _).mono ?_
  rintro e w2 ⟨rfl, rfl⟩
  go_wp2_with fail
  go_ret
  exact ⟨rfl, ho⟩
end Go.Proofs.YtnmaoodghbkmcaaDoor
