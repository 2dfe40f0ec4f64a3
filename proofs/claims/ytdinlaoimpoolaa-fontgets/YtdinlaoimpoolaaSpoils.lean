/- spoil: a font's rows are written over and grow. -/
import Derived.Test.YtdinlaoimpoolaaSpoil
namespace Go.Proofs.Ytdinlaoimpoolaa
open Go.RowKit

set_option maxRecDepth 100000 in
set_option maxHeartbeats 8000000 in
theorem spoil_any (L : List Nat) (em : Int) (ag ap : Option Addr) (n m c d h : Nat) (xs ys : List Value) (w : World) (hn : n ≤ 1024) (hm : m ≤ 4096) (hh : h ≤ w.heap.size)
    (r1 : w.ownsRow h 33 4 (.slice ag n c) n xs) (r2 : w.ownsRow h 35 5 (.slice ap m d) m ys)
    (h1 : ∀ b, (Value.slice ag n c).ownBlock = some b → b ∈ L) (h2 : ∀ b, (Value.slice ap m d).ownBlock = some b → b ∈ L) :
    Calls Try.prog 18 #[.agg #[.int .i64 em, .slice ag n c, .slice ap m d]] w fun e w' => e = .returned (.tuple #[]) ∧ Only L w w' := by
  have HH := hid hh
  have HN := hid (And.intro hn hm)
  have HL1 := hid h1
  have HL2 := hid h2
  have HR1 := hid (r1.alloc (.cells #[.int .i64 em, .slice ag n c, .slice ap m d] 25))
  have HR2 := hid (r2.alloc (.cells #[.int .i64 em, .slice ag n c, .slice ap m d] 25))
  have HO0 := hid ((Only.refl L w).alloc (.cells #[.int .i64 em, .slice ag n c, .slice ap m d] 25))
  have hnI : (n : Int) ≤ 1024 := by omega
  have hmI : (m : Int) ≤ 4096 := by omega
  obtain ⟨i3, hi3, z30, z31, z32⟩ := info_parts info45
  obtain ⟨i5, hi5, z50, z51, z52⟩ := info_parts info52
  have HI3 := hid (And.intro hi3 (And.intro z30 (And.intro z31 z32)))
  have HI5 := hid (And.intro hi5 (And.intro z50 (And.intro z51 z52)))
  clear hi3 z30 z31 z32 hi5 z50 z51 z52 r1 r2 h1 h2 hh hn hm
  go_enter Try.func18, Try.ntmps18
  go_wp2_with fail
  obtain ⟨W0, hW0⟩ : ∃ W0, w.alloc (.cells #[.int .i64 em, .slice ag n c, .slice ap m d] 25) = W0 := ⟨_, rfl⟩
  rw [hW0] at HR1 HR2 HO0 ⊢
  clear hW0
  go_loopw [4] (fun vi wr => ∃ (k : Nat) (xs' : List Value), vi = .int .i64 k ∧ k ≤ n ∧ Only L w wr ∧ wr.ownsRow h 33 4 (.slice ag n c) n xs' ∧ wr.ownsRow h 35 5 (.slice ap m d) m ys) (fun vi _ => n - (RowKit.intOf vi).toNat)
  case atStart => exact ⟨0, xs, rfl, Nat.zero_le _, HO0.out, HR1.out, HR2.out⟩
  case round =>
    obtain ⟨k, xs', rfl, hk, ho, q1, q2⟩ := hrel
    clear HR1 HR2 HO0
    have HO := hid ho
    have HR2 := hid q2
    by_cases hlt : k < n
    · obtain ⟨b, cur, rfl, hB, ⟨u, z1⟩, hset⟩ := row_put q1 (k := k * 4 + 1) (by omega)
      have HB := hid hB
      have HS := hid hset
      have HQ1 := hid q1
      have f1 := hB.froz (k * 4 + 1)
      have hlt' : (k : Int) < (n : Int) := by omega
      have hk0 : (0 : Int) ≤ (k : Int) := by omega
      have HKL := hid hlt
      clear hB hset q1 q2 ho hlt
      go_wp2_with fail
      have hO2 : Only L w (wr.setCell ⟨b, k * 4 + 1, none⟩ (.int .i64 (-9))) := HO.out.set (p := ⟨b, k * 4 + 1, none⟩) (.inl (HL1.out b rfl)) _
      refine ⟨⟨k + 1, _, by go_num, by have := HKL.out; omega, hO2, HS.out _, row_set HR2.out HB.out (by decide)⟩, ?_⟩
      have := HKL.out
      simp [RowKit.intOf]; omega
    · have hlt' : ¬ (k : Int) < (n : Int) := by omega
      have HR1 := hid q1
      clear hlt q1 q2 ho hk
      go_wp2_with fail
      clear hlt'
      go_loopw [5] (fun vi wr => ∃ (k : Nat) (ys' : List Value), vi = .int .i64 k ∧ k ≤ m ∧ Only L w wr ∧ wr.ownsRow h 33 4 (.slice ag n c) n xs' ∧ wr.ownsRow h 35 5 (.slice ap m d) m ys') (fun vi _ => m - (RowKit.intOf vi).toNat)
      case atStart => exact ⟨0, ys, rfl, Nat.zero_le _, HO.out, HR1.out, HR2.out⟩
      case round =>
        obtain ⟨k, ys', rfl, hk, ho, q1, q2⟩ := hrel
        clear HR1 HR2 HO
        have HO := hid ho
        have HR1 := hid q1
        by_cases hlt : k < m
        · obtain ⟨b, cur, rfl, hB, ⟨u, z1⟩, hset⟩ := row_put q2 (k := k * 5) (by omega)
          have HB := hid hB
          have HS := hid hset
          have f1 := hB.froz (k * 5)
          have hlt' : (k : Int) < (m : Int) := by omega
          have hk0 : (0 : Int) ≤ (k : Int) := by omega
          have HKL := hid hlt
          clear hB hset q1 q2 ho hlt
          go_wp2_with fail
          have hO2 : Only L w (wr.setCell ⟨b, k * 5, none⟩ (.int .i64 (-9))) := HO.out.set (p := ⟨b, k * 5, none⟩) (.inl (HL2.out b rfl)) _
          refine ⟨⟨k + 1, _, by go_num, by have := HKL.out; omega, hO2, row_set HR1.out HB.out (by decide), HS.out _⟩, ?_⟩
          have := HKL.out
          simp [RowKit.intOf]; omega
        · have hlt' : ¬ (k : Int) < (m : Int) := by omega
          have HR2 := hid q2
          clear hlt q1 q2 ho hk
          go_wp2_with fail
          clear hlt'
          go_loopw [2, 3, 6] (fun va vb vi wr => ∃ (i : Nat) (zs1 zs2 : List Value), vi = .int .i64 i ∧ i ≤ 9 ∧ wr.ownsRow h 33 4 va (n + i) zs1 ∧ wr.ownsRow h 35 5 vb (m + i) zs2 ∧ Only L w wr ∧ (∀ b, va.ownBlock = some b → b ∈ L ∨ w.heap.size ≤ b) ∧ (∀ b, vb.ownBlock = some b → b ∈ L ∨ w.heap.size ≤ b)) (fun _ _ vi _ => 9 - (RowKit.intOf vi).toNat)
          case atStart => exact ⟨0, xs', ys', rfl, by omega, HR1.out, HR2.out, HO.out, fun b q => .inl (HL1.out b q), fun b q => .inl (HL2.out b q)⟩
          case round =>
            obtain ⟨i, zs1, zs2, rfl, hi, q1, q2, ho, ha, hb⟩ := hrel
            clear HR1 HR2 HO
            obtain ⟨ad1, cc1, rfl, _, _⟩ := row_reads q1
            obtain ⟨ad2, cc2, rfl, _, _⟩ := row_reads q2
            have HN2 := hid (And.intro hnI hmI)
            by_cases hi9 : i < 9
            · have HR1 := hid (q1.alloc (.cells (cg (-8, 0, 0, 0)).toArray 33))
              have HR2 := hid (q2.alloc (.cells (cg (-8, 0, 0, 0)).toArray 33))
              have HO := hid (ho.alloc (.cells (cg (-8, 0, 0, 0)).toArray 33))
              have HA := hid ha
              have HB := hid hb
              have HN1 := hid (sl_newest wr (cg (-8, 0, 0, 0)) 33 (k := wr.heap.size) (n := 1) rfl)
              have hii : (i : Int) < 9 := by omega
              have HSZ1 : Hid (h ≤ (wr.alloc (.cells (cg (-8, 0, 0, 0)).toArray 33)).heap.size ∧ w.heap.size ≤ (wr.alloc (.cells (cg (-8, 0, 0, 0)).toArray 33)).heap.size) := hid (by have := ho.size; have := HH.out; simp; omega)
              obtain ⟨hi3, z30, z31, z32⟩ := HI3.out
              obtain ⟨hi5, z50, z51, z52⟩ := HI5.out
              have HNN := HN.out
              clear q1 q2 ho ha hb
              simp only [cg] at HR1 HR2 HO HN1 HSZ1
              go_wp2_with (at_builtin; refine wpList_append_sl _ rfl _ _ 22 rfl h 33 i3 _ 4 32 Try.underlying22 hi3 z30 z31 z32 rfl (by decide) _ _ _ rfl HR1.out (some ⟨wr.heap.size, 0, none⟩) 1 1 [.int .i64 (-8), .int .i64 0, .int .i64 0, .int .i64 0] rfl rfl HN1.out (by simp [Value.oneCell']) ?q1 ?q2 ?q3 ?_)
              case q1 => unfold maxLen; omega
              case q2 => omega
              case q3 => exact HSZ1.out.1
              intro va w1 hown hgrew
              have HO1 := hid (only_grow HO.out hgrew.grown HA.out)
              have HA1 : Hid (∀ b, va.ownBlock = some b → b ∈ L ∨ w.heap.size ≤ b) := hid (fun b hb => by
                rcases hgrew with ⟨g1, _⟩ | ⟨g1, _⟩
                · exact HA.out b (g1 ▸ hb)
                · rw [g1] at hb
                  cases hb
                  exact .inr HSZ1.out.2)
              have HRa := hid hown
              have HRb := hid (HR2.out.kept hgrew.grown (row_not_row HR2.out HR1.out (by decide)))
              obtain ⟨ad3, cc3, rfl, _, _⟩ := row_reads hown
              clear hown hgrew HR1 HR2 HO HA HN1 HSZ1
              have HR1 := hid (HRa.out.alloc (.cells (cp (-8, 0, false, 0, 0)).toArray 35))
              have HR2 := hid (HRb.out.alloc (.cells (cp (-8, 0, false, 0, 0)).toArray 35))
              have HO := hid (HO1.out.alloc (.cells (cp (-8, 0, false, 0, 0)).toArray 35))
              have HN1 := hid (sl_newest w1 (cp (-8, 0, false, 0, 0)) 35 (k := w1.heap.size) (n := 1) rfl)
              have HSZ1 : Hid (h ≤ (w1.alloc (.cells (cp (-8, 0, false, 0, 0)).toArray 35)).heap.size ∧ w.heap.size ≤ (w1.alloc (.cells (cp (-8, 0, false, 0, 0)).toArray 35)).heap.size) := hid (by have := HO1.out.size; have := HH.out; simp; omega)
              clear HO1 HRa HRb
              simp only [cp] at HR1 HR2 HO HN1 HSZ1
              go_wp2_with (at_builtin; refine wpList_append_sl _ rfl _ _ 23 rfl h 35 i5 _ 5 40 Try.underlying23 hi5 z50 z51 z52 rfl (by decide) _ _ _ rfl HR2.out (some ⟨w1.heap.size, 0, none⟩) 1 1 [.int .i64 (-8), .int .i64 0, .bool false, .int .i64 0, .int .i64 0] rfl rfl HN1.out (by simp [Value.oneCell']) ?q1 ?q2 ?q3 ?_)
              case q1 => unfold maxLen; omega
              case q2 => omega
              case q3 => exact HSZ1.out.1
              intro vb w2 hown hgrew
              have HO1 := hid (only_grow HO.out hgrew.grown HB.out)
              have HB1 : Hid (∀ b, vb.ownBlock = some b → b ∈ L ∨ w.heap.size ≤ b) := hid (fun b hb => by
                rcases hgrew with ⟨g1, _⟩ | ⟨g1, _⟩
                · exact HB.out b (g1 ▸ hb)
                · rw [g1] at hb
                  cases hb
                  exact .inr HSZ1.out.2)
              have HRb := hid hown
              have HRa := hid (HR1.out.kept hgrew.grown (row_not_row HR1.out HR2.out (by decide)))
              obtain ⟨ad4, cc4, rfl, _, _⟩ := row_reads hown
              clear hown hgrew HR1 HR2 HO HB HN1 HSZ1
              go_wp2_with fail
              refine ⟨⟨i + 1, _, _, by go_num, by omega, HRa.out, HRb.out, HO1.out, HA1.out, HB1.out⟩, ?_⟩
              simp [RowKit.intOf]; omega
            · have hii : ¬ (i : Int) < 9 := by omega
              have HO := hid ho
              clear q1 q2 ho ha hb
              go_wp2_with fail
              refine bodyPost_end (results_none (fn := Try.f18) rfl _ _ _) rfl ⟨rfl, HO.out⟩
end Go.Proofs.Ytdinlaoimpoolaa
