import Derived.Test.YtliomaiaknpphaaRef
namespace Go.Proofs.Ytliomaiaknpphaa
open Go.RowKit

/-- what a call on a meter of known numbers does -/
theorem step_is (m m' : M) (ok : Bool) (b : Nat) (n : Int) (hm : m.Ok) (h1 : m.step n = m') (h2 : m.stepOk n = ok) (w : World) (h : Blk w b m.cells 52) :
    Calls Try.prog 11 #[.pointer (some ⟨b, 0, none⟩), .int .i64 n] w fun e w' => e = .returned (.bool ok) ∧ Blk w' b m'.cells 52 ∧ Only [b] w w' := by
  subst h1 h2; exact step_any m hm b n w h
theorem hold_is (m m' : M) (ok : Bool) (b : Nat) (n : Int) (hm : m.Ok) (h1 : m.hold n = m') (h2 : m.holdOk n = ok) (w : World) (h : Blk w b m.cells 52) :
    Calls Try.prog 13 #[.pointer (some ⟨b, 0, none⟩), .int .i64 n] w fun e w' => e = .returned (.bool ok) ∧ Blk w' b m'.cells 52 ∧ Only [b] w w' := by
  subst h1 h2; exact hold_any m hm b n w h
theorem drop_is (m m' : M) (ok : Bool) (b : Nat) (n : Int) (hm : m.Ok) (h1 : m.drop n = m') (h2 : m.dropOk n = ok) (w : World) (h : Blk w b m.cells 52) :
    Calls Try.prog 15 #[.pointer (some ⟨b, 0, none⟩), .int .i64 n] w fun e w' => e = .returned (.bool ok) ∧ Blk w' b m'.cells 52 ∧ Only [b] w w' := by
  subst h1 h2; exact drop_any m hm b n w h

set_option maxHeartbeats 2000000 in
theorem shown_any (w : World) : Calls Try.prog 7 #[] w fun e w' => e = .returned (.bool true) ∧ Only [] w w' := by
  go_enter Try.func7, Try.ntmps7
  go_wp2_with fail
  refine (new_yes 5 3 _ (by omega) (by omega)).mono ?_
  rintro e w1 ⟨rfl, rfl⟩
  have hb := Blk.new w (M.cells ⟨5, 3, 0, 0, 0, 0⟩).toArray 52 rfl
  have ho := (Only.refl [w.heap.size] w).alloc (.cells (M.cells ⟨5, 3, 0, 0, 0, 0⟩).toArray 52)
  obtain ⟨W, hW⟩ : ∃ W, w.alloc (.cells (M.cells ⟨5, 3, 0, 0, 0, 0⟩).toArray 52) = W := ⟨_, rfl⟩
  rw [hW] at hb ho ⊢
  clear hW
  go_wp2_with fail
  refine (step_is _ ⟨5, 3, 3, 0, 0, 0⟩ true _ _ ⟨by decide, by decide, by decide, by decide, by decide, by decide, by decide⟩ rfl rfl _ hb).mono ?_
  rintro e w1 ⟨rfl, hb1, ho1⟩
  clear hb
  go_wp2_with fail
  refine (step_is _ ⟨5, 3, 5, 0, 0, 0⟩ true _ _ ⟨by decide, by decide, by decide, by decide, by decide, by decide, by decide⟩ rfl rfl _ hb1).mono ?_
  rintro e w2 ⟨rfl, hb2, ho2⟩
  go_wp2_with fail
  refine (hold_is _ ⟨5, 3, 5, 2, 2, 0⟩ true _ _ ⟨by decide, by decide, by decide, by decide, by decide, by decide, by decide⟩ rfl rfl _ hb2).mono ?_
  rintro e w3 ⟨rfl, hb3, ho3⟩
  go_wp2_with fail
  refine (drop_is _ ⟨5, 3, 5, 1, 2, 0⟩ true _ _ ⟨by decide, by decide, by decide, by decide, by decide, by decide, by decide⟩ rfl rfl _ hb3).mono ?_
  rintro e w4 ⟨rfl, hb4, ho4⟩
  go_wp2_with fail
  refine (hold_is _ ⟨5, 3, 5, 3, 3, 0⟩ true _ _ ⟨by decide, by decide, by decide, by decide, by decide, by decide, by decide⟩ rfl rfl _ hb4).mono ?_
  rintro e w5 ⟨rfl, hb5, ho5⟩
  go_wp2_with fail
  refine (step_is _ ⟨5, 3, 5, 3, 3, 20⟩ false _ _ ⟨by decide, by decide, by decide, by decide, by decide, by decide, by decide⟩ rfl rfl _ hb5).mono ?_
  rintro e w6 ⟨rfl, hb6, ho6⟩
  go_wp2_with fail
  refine (steps_any _ _ _ hb6).mono ?_
  rintro e w7 ⟨rfl, rfl⟩
  go_wp2_with fail
  refine (held_any _ _ _ hb6).mono ?_
  rintro e w7 ⟨rfl, rfl⟩
  go_wp2_with fail
  refine (peak_any _ _ _ hb6).mono ?_
  rintro e w7 ⟨rfl, rfl⟩
  go_wp2_with fail
  refine (refused_any _ _ _ hb6).mono ?_
  rintro e w7 ⟨rfl, rfl⟩
  go_wp2_with fail
  refine (hold_is _ ⟨5, 3, 5, 3, 3, 20⟩ false _ _ ⟨by decide, by decide, by decide, by decide, by decide, by decide, by decide⟩ rfl rfl _ hb6).mono ?_
  rintro e w7 ⟨rfl, hb7, ho7⟩
  go_wp2_with fail
  go_ret
  refine ⟨rfl, ?_⟩
  have := ((((((ho.trans ho1).trans ho2).trans ho3).trans ho4).trans ho5).trans ho6).trans ho7
  exact this.mono fun k hk h => by simp at h; omega
end Go.Proofs.Ytliomaiaknpphaa
