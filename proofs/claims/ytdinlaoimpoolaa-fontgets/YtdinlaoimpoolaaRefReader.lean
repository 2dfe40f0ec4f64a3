/- The reference's reader: its memory; is it fine, what is wrong, what must be. -/
import Derived.Test.YtdinlaoimpoolaaGet
import Derived.Test.YtdinlaoimpoolaaRefMeter
import Derived.Test.YtdinlaoimpoolaaSerAll
namespace Go.Proofs.Ytdinlaoimpoolaa
open Go.RowKit

/-- the reader at r: how far, what was wrong, the meter -/
structure RS (W : World) (r mb : Nat) (b : ByteArray) (i : Int) (k fa : Int) (m : M) : Prop where
  blk : Blk W r [.pointer (some ⟨mb, 0, none⟩), .string b, .int .i64 i, .int .i64 k, .int .i64 fa] 87
  mt : Blk W mb m.rcells 74
theorem RS.ne {W : World} {r mb : Nat} {b : ByteArray} {i k fa : Int} {m : M} (h : RS W r mb b i k fa m) : r ≠ mb := by
  intro e
  subst e
  exact absurd (h.blk.same h.mt).2 (by decide)
theorem RS.below {W W' : World} {r mb : Nat} {b : ByteArray} {i k fa : Int} {m : M} (h : RS W r mb b i k fa m) (q : Below W.heap.size W W') : RS W' r mb b i k fa m := ⟨h.blk.below q, h.mt.below q⟩
theorem RS.drew {W : World} {r mb : Nat} {b : ByteArray} {i k fa : Int} {m : M} (h : RS W r mb b i k fa m) : RS W.drew r mb b i k fa m := ⟨h.blk, h.mt⟩

theorem refusedR_any (m : M) (b : Nat) (w : World) (h : Blk w b m.rcells 74) : Calls Try.prog 43 #[.pointer (some ⟨b, 0, none⟩)] w fun e w' => e = .returned (.int .i64 m.why) ∧ w' = w := by
  have c5 : w.cell? ⟨b, 5, none⟩ = some (.int .i64 m.why) := h.cell 5
  clear h
  go_enter Try.func43, Try.ntmps43
  go_wp2
  go_ret
  exact ⟨rfl, rfl⟩
theorem fine_any (r mb : Nat) (b : ByteArray) (i k fa : Int) (m : M) (w : World) (h : RS w r mb b i k fa m) : Calls Try.prog 38 #[.pointer (some ⟨r, 0, none⟩)] w fun e w' => e = .returned (.bool (k == 0)) ∧ w' = w := by
  have c3 : w.cell? ⟨r, 3, none⟩ = some (.int .i64 k) := h.blk.cell 3
  clear h
  go_enter Try.func38, Try.ntmps38
  go_wp2
  go_ret
  exact ⟨rfl, rfl⟩
theorem wrong_any (e0 a0 : Int) (r mb : Nat) (b : ByteArray) (i k fa : Int) (m : M) (w : World) (h : RS w r mb b i k fa m) : Calls Try.prog 41 #[.pointer (some ⟨r, 0, none⟩), .int .i64 e0, .int .i64 a0] w fun e w' => e = .returned (.tuple #[]) ∧
    RS w' r mb b i (if k = 0 then e0 else k) (if k = 0 then a0 else fa) m ∧ Only [r] w w' := by
  have HF := hid (fine_any r mb b i k fa m w h)
  have HR := hid h
  have c3 : w.cell? ⟨r, 3, none⟩ = some (.int .i64 k) := h.blk.cell 3
  have c4 : w.cell? ⟨r, 4, none⟩ = some (.int .i64 fa) := h.blk.cell 4
  have f3 := h.blk.froz 3
  have f4 := h.blk.froz 4
  clear h
  by_cases hk : k = 0
  · subst hk
    have HO : Hid (RS ((w.setCell ⟨r, 3, none⟩ (.int .i64 e0)).setCell ⟨r, 4, none⟩ (.int .i64 a0)) r mb b i e0 a0 m ∧ Only [r] w ((w.setCell ⟨r, 3, none⟩ (.int .i64 e0)).setCell ⟨r, 4, none⟩ (.int .i64 a0))) :=
      hid ⟨⟨(HR.out.blk.set 3 _).set 4 _, (HR.out.mt.other _ _ (Ne.symm HR.out.ne)).other _ _ (Ne.symm HR.out.ne)⟩, ((Only.refl _ w).set (p := ⟨r, 3, none⟩) (.inl (by simp)) _).set (p := ⟨r, 4, none⟩) (.inl (by simp)) _⟩
    simp only [if_true]
    go_enter Try.func41, Try.ntmps41
    go_wp2_with (go_at_call 38; refine HF.out.mono ?_; rintro e w' ⟨rfl, rfl⟩)
    refine bodyPost_end (results_none (fn := Try.f41) rfl _ _ _) rfl ⟨rfl, HO.out.1, HO.out.2⟩
  · rw [if_neg hk, if_neg hk]
    have hk2 : (k == 0) = false := by simpa using hk
    go_enter Try.func41, Try.ntmps41
    go_wp2_with (go_at_call 38; refine HF.out.mono ?_; rintro e w' ⟨rfl, rfl⟩)
    refine bodyPost_end (results_none (fn := Try.f41) rfl _ _ _) rfl ⟨rfl, HR.out, Only.refl _ _⟩
theorem must_any (ok : Bool) (r mb : Nat) (b : ByteArray) (i k fa : Int) (m : M) (w : World) (h : RS w r mb b i k fa m) (hi : 0 ≤ i ∧ i ≤ 9223372036854775807) : Calls Try.prog 37 #[.pointer (some ⟨r, 0, none⟩), .bool ok] w fun e w' => e = .returned (.tuple #[]) ∧
    RS w' r mb b i (if ok = false ∧ k = 0 then 60 else k) (if ok = false ∧ k = 0 then i - 1 else fa) m ∧ Only [r] w w' := by
  have HR := hid h
  have c2 : w.cell? ⟨r, 2, none⟩ = some (.int .i64 i) := h.blk.cell 2
  have HW := hid (wrong_any 60 (i - 1) r mb b i k fa m w h)
  have i0 := hi.1
  have i1 := hi.2
  clear h hi
  cases ok with
  | false =>
    simp only [true_and]
    obtain ⟨K1, hK1⟩ : ∃ K1, (if k = 0 then (60 : Int) else k) = K1 := ⟨_, rfl⟩
    obtain ⟨F1, hF1⟩ : ∃ F1, (if k = 0 then i - 1 else fa) = F1 := ⟨_, rfl⟩
    rw [hK1, hF1] at HW ⊢
    clear hK1 hF1
    go_enter Try.func37, Try.ntmps37
    go_wp2_with fail
    refine HW.out.mono ?_
    rintro e w' ⟨rfl, h1, h2⟩
    go_wp2_with fail
    refine bodyPost_end (results_none (fn := Try.f37) rfl _ _ _) rfl ⟨rfl, h1, h2⟩
  | true =>
    simp only [Bool.true_eq_false, false_and, if_false]
    go_enter Try.func37, Try.ntmps37
    go_wp2_with fail
    refine bodyPost_end (results_none (fn := Try.f37) rfl _ _ _) rfl ⟨rfl, HR.out, Only.refl _ _⟩
end Go.Proofs.Ytdinlaoimpoolaa
