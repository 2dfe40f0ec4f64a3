/- digitsOf: a text's digits ahead, and what stands behind them; value: the number of digits. -/
import Derived.Test.YtapnmopcmlcfbaaDoorSmall
import Derived.Lib.OthersKept
namespace Go.Proofs.YtapnmopcmlcfbaaDoor
open Go.RowKit

theorem bl_extract (s : ByteArray) (i j : Nat) : bl (s.extract i j) = ((bl s).drop i).take (j - i) := by
  simp only [bl, ByteArray.data_extract, Array.toList_extract, List.extract_eq_take_drop, List.map_take, List.map_drop]
theorem bl_front (s : ByteArray) (k : Nat) : bl (s.extract 0 k) = (bl s).take k := by rw [bl_extract, List.drop_zero, Nat.sub_zero]
theorem bl_behind (s : ByteArray) (k : Nat) : bl (s.extract k s.size) = (bl s).drop k := by
  rw [bl_extract, List.take_of_length_le]
  rw [List.length_drop, bl_length]
  exact Nat.le_refl _

set_option maxRecDepth 100000 in
set_option maxHeartbeats 4000000 in
theorem digitsOf_any (s : ByteArray) (w : World) (hs : s.size ≤ 140737488355328) :
    Calls Tryd.prog 22 #[.string s] w fun e w' => ∃ f b, e = .returned (.tuple #[.string f, .string b]) ∧ bl f = (bl s).take (dg (bl s)) ∧ bl b = (bl s).drop (dg (bl s)) ∧ Only [] w w' := by
  go_enter Tryd.func22, Tryd.ntmps22
  go_wp2_with fail
  obtain ⟨W1, hW1⟩ : ∃ W1, w.iter s 0 = W1 := ⟨_, rfl⟩
  have HI : Hid (W1.heap[w.heap.size]? = some (.stringIter s 0)) := by
    rw [← hW1]; exact World.iter_heap w s 0
  have HB : Hid (Below w.heap.size w W1) := by rw [← hW1]; exact (Below.refl _ _).alloc (Nat.le_refl _) _
  have HZ : Hid (w.heap.size + 1 = W1.heap.size) := by rw [← hW1]; show _ = _; simp [World.iter]
  rw [hW1]
  clear hW1
  have HW : Hid (w.heap.size = w.heap.size) := rfl
  obtain ⟨bf, hbf⟩ : ∃ bf, w.heap.size = bf := ⟨_, rfl⟩
  have HBF := hid hbf
  rw [hbf] at HI HB HZ
  rw [hbf]
  clear hbf HW
  go_loopw [4] (fun i wr => ∃ p : Nat, p ≤ dg (bl s) ∧ wr.heap[bf]? = some (.stringIter s p) ∧ Below bf W1 wr) (fun _ wr => s.size - wr.iterPos bf)
  case atStart => exact ⟨0, by omega, HI.out, Below.refl _ _⟩
  case round =>
    obtain ⟨p, hp, hit, hbl⟩ := hrel
    have HBL : Hid (Below bf W1 wr) := hbl
    clear hbl
    have hdl := dg_le (bl s)
    rw [bl_length] at hdl
    have hp0 : (0 : Int) ≤ (p : Int) := by omega
    have hp1 : (p : Int) ≤ (s.size : Int) := by omega
    have hs2 : (s.size : Int) ≤ 140737488355328 := by omega
    by_cases hlt : p < s.size
    · have hnx : ∀ ty, (Instr.next (.pointer (some ⟨bf, 0, none⟩)) true ty).run Tryd.prog wr = _ := fun ty => Lib.run_next_any_at wr bf s p ty hit hlt
      have hit2 := Lib.iterAt_heap wr bf s p (p + (Utf8.decode s p).2) hit
      have HB2 : Hid (Below bf W1 (wr.iterAt bf s (p + (Utf8.decode s p).2))) := Lib.below_iterAt HBL.out (Nat.le_refl _) s _
      have hitp : wr.iterPos bf = p := by simp [World.iterPos, hit]
      have HIT : Hid (wr.iterPos bf = p) := hitp
      clear hitp
      obtain ⟨c, hc⟩ : ∃ c, (bl s)[p]? = some c := ⟨_, List.getElem?_eq_getElem (by rw [bl_length]; exact hlt)⟩
      by_cases hpd : p < dg (bl s)
      · obtain ⟨c', hc', hd⟩ := dg_at (bl s) p hpd
        rw [hc] at hc'
        cases hc'
        have hdec := decode_dig s p c hc (by omega)
        rw [hdec] at hnx hit2 HB2
        simp only at hnx hit2 HB2
        have h1 : ¬ (c : Int) < 48 := by omega
        have h2 : ¬ (57 : Int) < (c : Int) := by omega
        have HPD := hid hpd
        clear hdec hc hd hit hpd hdl hp
        generalize wr.iterAt bf s (p + 1) = W2 at *
        go_wp2_with fail
        go_roundw
        case rel => exact ⟨p + 1, HPD.out, hit2, HB2.out⟩
        case measure =>
          rw [HIT.out]
          simp only [World.iterPos, hit2]
          omega
      · have hpe : dg (bl s) = p := by omega
        obtain ⟨hn, hmx⟩ := decode_not s p c hc (by have := dg_end (bl s) c (by rw [hpe]; exact hc); exact this)
        have HE := hid hpe
        generalize hr : (Utf8.decode s p).1 = r at *
        generalize (Utf8.decode s p).2 = wd at *
        generalize wr.iterAt bf s (p + wd) = W2 at *
        clear hr hc hit hpd hdl hp hpe
        have hor : (r : Int) < 48 ∨ (¬ (r : Int) < 48 ∧ (57 : Int) < (r : Int)) := by omega
        clear hn
        have hps : p ≤ s.size := by omega
        rcases hor with h1 | ⟨h1, h2⟩
        all_goals
          go_wp2_with fail
          go_quiet (fail)
          go_wp2
          go_ret2
          refine ⟨s.extract 0 p, s.extract p s.size, rfl, ?_, ?_, ?_⟩
          · rw [HE.out, bl_front]
          · rw [HE.out, bl_behind]
          · exact (Only.ofBelow (by rw [HBF.out]; exact HB.out.trans (HB2.out.mono (Nat.le_refl _)))).drewN _
    · have hnx : ∀ ty, (Instr.next (.pointer (some ⟨bf, 0, none⟩)) true ty).run Tryd.prog wr = _ := fun ty => Lib.run_next_end_at wr bf s p ty hit hlt
      have HE : Hid (dg (bl s) = s.size) := by show _ = _; omega
      clear hit hlt hp hdl
      go_wp2_with fail
      go_ret2
      refine ⟨s, ⟨#[]⟩, rfl, ?_, ?_, ?_⟩
      · rw [HE.out, List.take_of_length_le (by rw [bl_length]; exact Nat.le_refl _)]
      · rw [HE.out, List.drop_of_length_le (by rw [bl_length]; exact Nat.le_refl _)]; rfl
      · exact Only.ofBelow (by rw [HBF.out]; exact HB.out.trans (HBL.out.mono (Nat.le_refl _)))
end Go.Proofs.YtapnmopcmlcfbaaDoor
