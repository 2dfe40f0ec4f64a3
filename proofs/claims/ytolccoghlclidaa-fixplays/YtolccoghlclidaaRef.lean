import Derived.Test.YtolccoghlclidaaScale
namespace Go.Proofs.Ytolccoghlclidaa
open Go.RowKit

/-- what the reference's told answers, and the flag that it leaves -/
def refB (bad ok : Bool) (v : Int) : Bool := bad || !ok || !lenB v
def refV (bad ok : Bool) (v : Int) : Int := if refB bad ok v then 0 else v

set_option maxHeartbeats 400000 in
theorem told_any (c : Addr) (bad : Bool) (v : Int) (ok : Bool) (w : World) (hc : w.cell? c = some (.bool bad)) (hf : w.frozen? c = false) :
    Calls Try.prog 34 #[.pointer (some c), .int .i64 v, .bool ok] w fun e w' => e = .returned (.int .i64 (refV bad ok v)) ∧ Upd c (refB bad ok v) w w' := by
  have u0 := Upd.refl hc hf
  cases bad
  · cases ok
    · go_enter Try.func34, Try.ntmps34
      go_wp2_with fail
      go_ret
      exact ⟨rfl, u0.set true⟩
    · cases hl : lenB v
      · have e1 : refV false true v = 0 := by simp [refV, refB, hl]
        have e2 : refB false true v = true := by simp [refB, hl]
        rw [e1, e2]; clear e1 e2
        go_enter Try.func34, Try.ntmps34
        go_wp2_with fail
        refine (length_any _ _).mono ?_
        rintro e w' ⟨rfl, rfl⟩
        rw [hl]
        go_wp2_with fail
        go_ret
        exact ⟨rfl, u0.set true⟩
      · have e1 : refV false true v = v := by simp [refV, refB, hl]
        have e2 : refB false true v = false := by simp [refB, hl]
        rw [e1, e2]; clear e1 e2
        go_enter Try.func34, Try.ntmps34
        go_wp2_with fail
        refine (length_any _ _).mono ?_
        rintro e w' ⟨rfl, rfl⟩
        rw [hl]
        go_wp2_with fail
        go_ret
        exact ⟨rfl, u0⟩
  · go_enter Try.func34, Try.ntmps34
    go_wp2_with fail
    go_ret
    exact ⟨rfl, u0.set true⟩

theorem ref_no (bad : Bool) (v : Int) : refV bad false v = 0 ∧ refB bad false v = true := by simp [refV, refB]
/-- an exact answer that is told: the same as tell's -/
theorem ref_yes {bad : Bool} {l : List Int} {v : Int} (h : allLen l = true) : refV bad true v = toldV bad (allLen l) (lenB v) (cut v) ∧ refB bad true v = toldB bad (allLen l) (lenB v) := by
  unfold refV refB toldV toldB
  rw [h]
  cases hl : lenB v
  · simp
  · rw [cut_yes hl]; cases bad <;> simp
theorem tell_no {bad ok : Bool} {l : List Int} {n : Int} (h : allLen l = false) : toldV bad (allLen l) ok n = 0 ∧ toldB bad (allLen l) ok = true := by
  unfold toldV toldB; rw [h]; cases bad <;> simp
theorem tell_no2 {bad all : Bool} {n : Int} : toldV bad all false n = 0 ∧ toldB bad all false = true := by
  unfold toldV toldB; cases bad <;> cases all <;> simp

set_option maxHeartbeats 400000 in
theorem addR_any (c : Addr) (bad : Bool) (a b : Int) (w : World) (hc : w.cell? c = some (.bool bad)) (hf : w.frozen? c = false) :
    Calls Try.prog 20 #[.pointer (some c), .int .i64 a, .int .i64 b] w fun e w' => e = .returned (.int .i64 (toldV bad (allLen [a, b]) (lenB (a + b)) (cut (a + b)))) ∧ Upd c (toldB bad (allLen [a, b]) (lenB (a + b))) w w' := by
  cases ha : lenB a
  · have r := tell_no (bad := bad) (ok := lenB (a + b)) (n := cut (a + b)) (l := [a, b]) (by simp [allLen, ha])
    have q := ref_no bad 0
    rw [r.1, r.2, ← q.1, ← q.2]; clear r q
    go_enter Try.func20, Try.ntmps20
    go_wp2_with fail
    refine (length_any _ _).mono ?_
    rintro e w' ⟨rfl, rfl⟩
    rw [ha]
    go_wp2_with fail
    refine (told_any c bad 0 false _ hc hf).mono ?_
    rintro e w' ⟨rfl, hu⟩
    go_wp2_with fail
    go_ret
    exact ⟨rfl, hu⟩
  · cases hb : lenB b
    · have r := tell_no (bad := bad) (ok := lenB (a + b)) (n := cut (a + b)) (l := [a, b]) (by simp [allLen, hb])
      have q := ref_no bad 0
      rw [r.1, r.2, ← q.1, ← q.2]; clear r q
      go_enter Try.func20, Try.ntmps20
      go_wp2_with fail
      refine (length_any _ _).mono ?_
      rintro e w' ⟨rfl, rfl⟩
      rw [ha]
      go_wp2_with fail
      refine (length_any _ _).mono ?_
      rintro e w' ⟨rfl, rfl⟩
      rw [hb]
      go_wp2_with fail
      refine (told_any c bad 0 false _ hc hf).mono ?_
      rintro e w' ⟨rfl, hu⟩
      go_wp2_with fail
      go_ret
      exact ⟨rfl, hu⟩
    · have q := ref_yes (bad := bad) (l := [a, b]) (v := a + b) (by simp [allLen, ha, hb])
      rw [← q.1, ← q.2]; clear q
      obtain ⟨a1, a2⟩ := lenB_yes ha
      obtain ⟨b1, b2⟩ := lenB_yes hb
      go_enter Try.func20, Try.ntmps20
      go_wp2_with fail
      refine (length_any _ _).mono ?_
      rintro e w' ⟨rfl, rfl⟩
      rw [ha]
      go_wp2_with fail
      refine (length_any _ _).mono ?_
      rintro e w' ⟨rfl, rfl⟩
      rw [hb]
      go_wp2_with fail
      refine (told_any c bad _ true _ hc hf).mono ?_
      rintro e w' ⟨rfl, hu⟩
      go_wp2_with fail
      go_ret
      exact ⟨rfl, hu⟩
set_option maxHeartbeats 400000 in
theorem subR_any (c : Addr) (bad : Bool) (a b : Int) (w : World) (hc : w.cell? c = some (.bool bad)) (hf : w.frozen? c = false) :
    Calls Try.prog 21 #[.pointer (some c), .int .i64 a, .int .i64 b] w fun e w' => e = .returned (.int .i64 (toldV bad (allLen [a, b]) (lenB (a - b)) (cut (a - b)))) ∧ Upd c (toldB bad (allLen [a, b]) (lenB (a - b))) w w' := by
  cases ha : lenB a
  · have r := tell_no (bad := bad) (ok := lenB (a - b)) (n := cut (a - b)) (l := [a, b]) (by simp [allLen, ha])
    have q := ref_no bad 0
    rw [r.1, r.2, ← q.1, ← q.2]; clear r q
    go_enter Try.func21, Try.ntmps21
    go_wp2_with fail
    refine (length_any _ _).mono ?_
    rintro e w' ⟨rfl, rfl⟩
    rw [ha]
    go_wp2_with fail
    refine (told_any c bad 0 false _ hc hf).mono ?_
    rintro e w' ⟨rfl, hu⟩
    go_wp2_with fail
    go_ret
    exact ⟨rfl, hu⟩
  · cases hb : lenB b
    · have r := tell_no (bad := bad) (ok := lenB (a - b)) (n := cut (a - b)) (l := [a, b]) (by simp [allLen, hb])
      have q := ref_no bad 0
      rw [r.1, r.2, ← q.1, ← q.2]; clear r q
      go_enter Try.func21, Try.ntmps21
      go_wp2_with fail
      refine (length_any _ _).mono ?_
      rintro e w' ⟨rfl, rfl⟩
      rw [ha]
      go_wp2_with fail
      refine (length_any _ _).mono ?_
      rintro e w' ⟨rfl, rfl⟩
      rw [hb]
      go_wp2_with fail
      refine (told_any c bad 0 false _ hc hf).mono ?_
      rintro e w' ⟨rfl, hu⟩
      go_wp2_with fail
      go_ret
      exact ⟨rfl, hu⟩
    · have q := ref_yes (bad := bad) (l := [a, b]) (v := a - b) (by simp [allLen, ha, hb])
      rw [← q.1, ← q.2]; clear q
      obtain ⟨a1, a2⟩ := lenB_yes ha
      obtain ⟨b1, b2⟩ := lenB_yes hb
      go_enter Try.func21, Try.ntmps21
      go_wp2_with fail
      refine (length_any _ _).mono ?_
      rintro e w' ⟨rfl, rfl⟩
      rw [ha]
      go_wp2_with fail
      refine (length_any _ _).mono ?_
      rintro e w' ⟨rfl, rfl⟩
      rw [hb]
      go_wp2_with fail
      refine (told_any c bad _ true _ hc hf).mono ?_
      rintro e w' ⟨rfl, hu⟩
      go_wp2_with fail
      go_ret
      exact ⟨rfl, hu⟩
set_option maxHeartbeats 400000 in
theorem negR_any (c : Addr) (bad : Bool) (a : Int) (w : World) (hc : w.cell? c = some (.bool bad)) (hf : w.frozen? c = false) :
    Calls Try.prog 23 #[.pointer (some c), .int .i64 a] w fun e w' => e = .returned (.int .i64 (toldV bad (allLen [a]) (lenB (-a)) (cut (-a)))) ∧ Upd c (toldB bad (allLen [a]) (lenB (-a))) w w' := by
  cases ha : lenB a
  · have r := tell_no (bad := bad) (ok := lenB (-a)) (n := cut (-a)) (l := [a]) (by simp [allLen, ha])
    have q := ref_no bad 0
    rw [r.1, r.2, ← q.1, ← q.2]; clear r q
    go_enter Try.func23, Try.ntmps23
    go_wp2_with fail
    refine (length_any _ _).mono ?_
    rintro e w' ⟨rfl, rfl⟩
    rw [ha]
    go_wp2_with fail
    refine (told_any c bad 0 false _ hc hf).mono ?_
    rintro e w' ⟨rfl, hu⟩
    go_wp2_with fail
    go_ret
    exact ⟨rfl, hu⟩
  · have q := ref_yes (bad := bad) (l := [a]) (v := -a) (by simp [allLen, ha])
    rw [← q.1, ← q.2]; clear q
    obtain ⟨a1, a2⟩ := lenB_yes ha
    go_enter Try.func23, Try.ntmps23
    go_wp2_with fail
    refine (length_any _ _).mono ?_
    rintro e w' ⟨rfl, rfl⟩
    rw [ha]
    go_wp2_with fail
    refine (told_any c bad _ true _ hc hf).mono ?_
    rintro e w' ⟨rfl, hu⟩
    go_wp2_with fail
    go_ret
    exact ⟨rfl, hu⟩

end Go.Proofs.Ytolccoghlclidaa
