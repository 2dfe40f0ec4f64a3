/- Get with much on the meter. -/
import Derived.Test.YtdinlaoimpoolaaShown
import Derived.Test.YtdinlaoimpoolaaSerAll
import Derived.Test.YtdinlaoimpoolaaSame
namespace Go.Proofs.Ytdinlaoimpoolaa
open Go.RowKit

set_option maxHeartbeats 400000 in
theorem great_any (w : World) : Calls Try.prog 19 #[] w fun e w' => e = .returned (.pointer (some ⟨w.heap.size, 0, none⟩)) ∧ w' = w.alloc (.cells MG.cells.toArray 72) := by
  have HN := hid (new_yes 1152921504606846976 1152921504606846976 w (by decide) (by decide))
  go_enter Try.func19, Try.ntmps19
  go_wp2_with (go_at_call 13; refine HN.out.mono ?_; rintro e w' ⟨rfl, rfl⟩)
  go_ret
  exact ⟨rfl, rfl⟩
/-- what it answers -/
def Told (w : World) (mb : Nat) (res : (Int × Nat) ⊕ St) (e : Ending) (w' : World) : Prop :=
  Only [mb] w w' ∧ (match res with
    | .inl x => e = .returned (.tuple #[.agg #[.int .i64 0, .slice none 0 0, .slice none 0 0], .agg #[.int .i64 x.1, .int .i64 x.2]])
    | .inr s => ∃ ag ca ap cb, e = .returned (.tuple #[.agg #[.int .i64 s.em, .slice ag s.gs.length ca, .slice ap s.ps.length cb], .agg #[.int .i64 0, .int .i64 0]]) ∧ Sl w' ag s.gs.length (s.gs.flatMap cg) ∧ Sl w' ap s.ps.length (s.ps.flatMap cp))
theorem get_great (s : ByteArray) (mb : Nat) (w : World) (hM : Blk w mb MG.cells 72) (hsz : s.size ≤ 9223372036854775807) :
    Calls Try.prog 15 #[.pointer (some ⟨mb, 0, none⟩), .string s] w (Told w mb (fin (bl s))) := by
  refine (get_any s MG mb w MG_ok hM hsz).mono ?_
  rintro e w' ⟨h1, _, h3⟩
  refine ⟨h1, ?_⟩
  rw [great_fin (bl s) (bl_lt s)] at h3
  cases hf : fin (bl s) with
  | inl x => rw [hf] at h3; exact h3
  | inr t =>
    rw [hf] at h3
    obtain ⟨gv, pv, he, hg, hp⟩ := h3
    obtain ⟨ag, ca, rfl, s1, _⟩ := row_reads hg
    obtain ⟨ap, cb, rfl, s2, _⟩ := row_reads hp
    exact ⟨ag, ca, ap, cb, he, s1, s2⟩
theorem strN_bl (s : ByteArray) : strN (bl s) = s := by
  unfold strN bl
  rw [List.map_map]
  have : (UInt8.ofNat ∘ UInt8.toNat) = id := by
    funext x
    simp
  rw [this, List.map_id]
theorem fontB_size (em : Int) (gs : List Gl) (ps : List Pr) (h : verd em gs ps = 0) : (strN (fontB em gs ps)).size ≤ 60000 := by
  have h1 := fontB_len em gs ps
  obtain ⟨_, h2, h3, _⟩ := verd_zero h
  have : (strN (fontB em gs ps)).size = (fontB em gs ps).length := by simp [strN, ByteArray.size]
  omega
end Go.Proofs.Ytdinlaoimpoolaa
