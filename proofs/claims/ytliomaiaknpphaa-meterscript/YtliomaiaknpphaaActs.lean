import Derived.Test.YtliomaiaknpphaaRun
namespace Go.Proofs.Ytliomaiaknpphaa
open Go.RowKit

/-- an int's bounds -/
def In64 (x : Int) : Prop := -9223372036854775808 ≤ x ∧ x ≤ 9223372036854775807
/-- where the script lies: act by act three numbers -/
structure ActAt (w : World) (b o : Nat) (a : Int × Int × Int) : Prop where
  c0 : w.cell? ⟨b, o, none⟩ = some (.int .i64 a.1)
  c1 : w.cell? ⟨b, o + 1, none⟩ = some (.int .i64 a.2.1)
  c2 : w.cell? ⟨b, o + 2, none⟩ = some (.int .i64 a.2.2)
  b0 : In64 a.1
  b1 : In64 a.2.1
  b2 : In64 a.2.2
def Acts (w : World) (b off len : Nat) (f : Nat → Int × Int × Int) : Prop := ∀ i, i < len → ActAt w b (off + i * 3) (f i)
theorem ActAt.keep {L : List Nat} {w w' : World} {b o : Nat} {a : Int × Int × Int} (h : ActAt w b o a) (k : Only L w w') (hb : b ∉ L) : ActAt w' b o a := by
  have hlt := World.block_lt_of_cell? w _ h.c0
  have e : w'.heap[b]? = w.heap[b]? := k.block b (by simpa using hlt) hb
  exact ⟨(World.cell?_of_block (w := w) e).trans h.c0, (World.cell?_of_block (w := w) e).trans h.c1, (World.cell?_of_block (w := w) e).trans h.c2, h.b0, h.b1, h.b2⟩
theorem Acts.keep {L : List Nat} {w w' : World} {b off len : Nat} {f : Nat → Int × Int × Int} (h : Acts w b off len f) (k : Only L w w') (hb : b ∉ L) : Acts w' b off len f := fun i hi => (h i hi).keep k hb
/-- the acts as a row of kinds and numbers, reduced -/
def redo (a : Int × Int × Int) : Int × Int := (amg a.1 3, amg a.2.2 1048576)
def rowOf (f : Nat → Int × Int × Int) (len : Nat) : List (Int × Int) := (List.range len).map fun i => redo (f i)
theorem rowOf_drop (f : Nat → Int × Int × Int) (len i : Nat) (h : i < len) : (rowOf f len).drop i = redo (f i) :: (rowOf f len).drop (i + 1) := by
  have hl : i < (rowOf f len).length := by simpa [rowOf] using h
  rw [List.drop_eq_getElem_cons hl]
  simp [rowOf]
theorem rowOf_len (f : Nat → Int × Int × Int) (len : Nat) : (rowOf f len).length = len := by simp [rowOf]
theorem rowOf_bd (f : Nat → Int × Int × Int) (len : Nat) : ∀ a ∈ rowOf f len, 0 ≤ a.2 ∧ a.2 < 1048576 := by
  intro a ha
  simp only [rowOf, List.mem_map] at ha
  obtain ⟨i, _, rfl⟩ := ha
  exact amg_bd _ _ (by decide)

set_option maxHeartbeats 1000000 in
theorem does_any (m : M) (hm : m.Ok) (b : Nat) (k x n : Int) (w : World) (h : Blk w b m.cells 52) :
    Calls Try.prog 31 #[.pointer (some ⟨b, 0, none⟩), .agg #[.int .i64 k, .int .i64 x, .int .i64 n]] w fun e w' => e = .returned (.bool (actOk m (amg k 3) (amg n 1048576))) ∧ Blk w' b (actM m (amg k 3) (amg n 1048576)).cells 52 ∧ Only [b] w w' := by
  have hlt := h.lt
  have hb := hidden (h.alloc (.cells #[.int .i64 k, .int .i64 x, .int .i64 n] 34))
  have hO := hidden ((Only.refl [b] w).alloc (.cells #[.int .i64 k, .int .i64 x, .int .i64 n] 34))
  have n0 := (Blk.new w #[.int .i64 k, .int .i64 x, .int .i64 n] 34 rfl).cell 2
  have k0 := (Blk.new w #[.int .i64 k, .int .i64 x, .int .i64 n] 34 rfl).cell 0
  have HA := hidden fun W => among_any n 1048576 (by decide) (by decide) W
  have HS := hidden fun q W => step_any m hm b q W
  have HH := hidden fun q W => hold_any m hm b q W
  have HD := hidden fun q W => drop_any m hm b q W
  obtain ⟨q, hq⟩ : ∃ q, amg n 1048576 = q := ⟨_, rfl⟩
  rw [hq] at HA ⊢
  clear hq h
  rcases three_kinds (amg k 3) with e | e | ⟨e, e2⟩
  · rw [e]
    go_enter Try.func31, Try.ntmps31
    go_wp2_with fail
    obtain ⟨W, hW⟩ : ∃ W, w.alloc (.cells #[.int .i64 k, .int .i64 x, .int .i64 n] 34) = W := ⟨_, rfl⟩
    rw [hW] at hb hO n0 k0 ⊢
    clear hW
    refine (among_any k 3 (by decide) (by decide) _).mono ?_
    rintro e1 w1 ⟨rfl, rfl⟩
    rw [e]
    go_wp2_with (first | (go_at_call 10; refine (HA.out _).mono ?_; rintro e1 w1 ⟨rfl, rfl⟩) | (go_at_call 11; refine (HS.out q _ (by exact hb)).mono ?_; rintro e1 w1 ⟨rfl, h1, h2⟩))
    go_ret
    exact ⟨rfl, h1, hO.out.trans h2⟩
  · rw [e]
    go_enter Try.func31, Try.ntmps31
    go_wp2_with fail
    obtain ⟨W, hW⟩ : ∃ W, w.alloc (.cells #[.int .i64 k, .int .i64 x, .int .i64 n] 34) = W := ⟨_, rfl⟩
    rw [hW] at hb hO n0 k0 ⊢
    clear hW
    refine (among_any k 3 (by decide) (by decide) _).mono ?_
    rintro e1 w1 ⟨rfl, rfl⟩
    rw [e]
    go_wp2_with (first | (go_at_call 10; refine (HA.out _).mono ?_; rintro e1 w1 ⟨rfl, rfl⟩) | (go_at_call 13; refine (HH.out q _ (by exact hb)).mono ?_; rintro e1 w1 ⟨rfl, h1, h2⟩))
    go_ret
    exact ⟨rfl, h1, hO.out.trans h2⟩
  · have a1 : actM m (amg k 3) q = m.drop q := by unfold actM; rw [if_neg e, if_neg e2]
    have a2 : actOk m (amg k 3) q = (m.dropOk q || decide (m.why = 0)) := by unfold actOk; rw [if_neg e, if_neg e2]
    rw [a1, a2]
    have HR := hidden fun W => refused_any (m.drop q) b W
    have a3 : (m.drop q).why = m.why := by unfold M.drop; split <;> rfl
    rw [a3] at HR
    clear a1 a2 a3
    have c0 : (amg k 3 == 0) = false := by simpa using e
    have c1 : (amg k 3 == 1) = false := by simpa using e2
    obtain ⟨z, hz⟩ : ∃ z, amg k 3 = z := ⟨_, rfl⟩
    rw [hz] at c0 c1
    clear e e2
    obtain ⟨m2, hm2⟩ : ∃ m2, m.drop q = m2 := ⟨_, rfl⟩
    obtain ⟨o, ho⟩ : ∃ o, m.dropOk q = o := ⟨_, rfl⟩
    have HD2 := hidden (HD.out q)
    rw [hm2] at HD2 HR ⊢
    rw [ho] at HD2 ⊢
    clear hm2 ho HD HS HH
    cases o
    all_goals
      go_enter Try.func31, Try.ntmps31
      go_wp2_with fail
      obtain ⟨W, hW⟩ : ∃ W, w.alloc (.cells #[.int .i64 k, .int .i64 x, .int .i64 n] 34) = W := ⟨_, rfl⟩
      rw [hW] at hb hO n0 k0 ⊢
      clear hW
      refine (among_any k 3 (by decide) (by decide) _).mono ?_
      rintro e1 w1 ⟨rfl, rfl⟩
      rw [hz]
      go_wp2_with (first | (go_at_call 10; refine (HA.out _).mono ?_; rintro e1 w1 ⟨rfl, rfl⟩) | (go_at_call 15; refine (HD2.out _ (by exact hb)).mono ?_; rintro e1 w1 ⟨rfl, h1, h2⟩) | (go_at_call 23; refine (HR.out _ (by exact h1)).mono ?_; rintro e1 w2 ⟨rfl, rfl⟩))
      go_ret
      first
        | exact ⟨rfl, h1, hO.out.trans h2⟩
        | exact ⟨by simp, h1, hO.out.trans h2⟩
end Go.Proofs.Ytliomaiaknpphaa
