import Derived.Test.YtolccoghlclidaaWholeN
namespace Go.Proofs.Ytolccoghlclidaa
open Go.RowKit

theorem info3 : (Try.prog.info? 3).map (fun i => (i.zero, i.size, i.bytes)) = some (some (Value.int .i64 0), 1, 8) := by kernel_rfl
theorem empty_row (w : World) (B : Nat) (h : B ≤ w.heap.size) (t : TypeId) : (w.alloc (.cells #[] t)).ownsRow B t 1 (.slice (some ⟨w.heap.size, 0, none⟩) 0 0) 0 [] := by
  refine ⟨rfl, Or.inr ⟨w.heap.size, 0, #[], rfl, h, ?_, by omega, by decide, rfl, rfl⟩⟩
  show (w.heap.push _)[w.heap.size]? = _
  simp

/-- an owned row of integers that is not empty: where it lies, and its cells -/
theorem row_open {w : World} {B : Nat} {n : Nat} {v : Value} {L : List Int} (h : w.ownsRow B 3 1 v n (L.map (Value.int .i64))) (hn : L ≠ []) :
    ∃ g cap, v = .slice (some ⟨g, 0, none⟩) n cap ∧ ∀ i (hi : i < L.length), w.cell? ⟨g, i, none⟩ = some (.int .i64 L[i]) := by
  have h0 := h
  obtain ⟨hl, hcase⟩ := h
  rcases hcase with ⟨_, h1⟩ | ⟨g, cap, cur, rfl, _⟩
  · subst h1; simp at hl; exact absurd hl hn
  · refine ⟨g, cap, rfl, fun i hi => ?_⟩
    have := h0.cellAt i (by simp at hl; omega)
    simpa [List.getElem?_eq_getElem hi] using this

theorem whole_sign {a x : Int} (h1 : 0 ≤ a → 0 ≤ x) (h2 : a ≤ 0 → x ≤ 0) : (a < 0 ∧ x ≤ 0) ∨ (0 < a ∧ 0 ≤ x) ∨ (a ≤ 0 ∧ 0 ≤ a ∧ x ≤ 0 ∧ 0 ≤ x) := by
  rcases Int.lt_trichotomy a 0 with h | h | h
  · exact Or.inl ⟨h, h2 (by omega)⟩
  · exact Or.inr (Or.inr ⟨by omega, by omega, h2 (by omega), h1 (by omega)⟩)
  · exact Or.inr (Or.inl ⟨h, h1 (by omega)⟩)
theorem whole_small {a l A x : Int} (h0 : 0 ≤ l) (hA : 1 ≤ A) (h1 : (x - 1) * A < a * l) (h2 : a * l < (x + 1) * A) :
    a ≤ -65536 ∨ (-65536 < a ∧ 65536 ≤ a) ∨ (-65536 < a ∧ a < 65536 ∧ 1099511627776 ≤ l) ∨ (-65536 < a ∧ a < 65536 ∧ l < 1099511627776 ∧ 1099511627776 ≤ A) ∨
    (-65536 < a ∧ a < 65536 ∧ l < 1099511627776 ∧ A < 1099511627776 ∧ ∃ P1 P2 P3, (x + 1) * A = P1 ∧ a * l = P2 ∧ (x - 1) * A = P3 ∧ P2 < P1 ∧ P3 < P2 ∧ -9223372036854775808 ≤ P3 ∧ P1 ≤ 9223372036854775807) := by
  by_cases g : -65536 < a ∧ a < 65536 ∧ l < 1099511627776 ∧ A < 1099511627776
  · obtain ⟨g1, g2, g3, g4⟩ := g
    have b := small_prod g1 g2 h0 g3
    have e : (x + 1) * A = (x - 1) * A + 2 * A := by rw [Int.add_mul, Int.sub_mul]; omega
    refine Or.inr (Or.inr (Or.inr (Or.inr ⟨g1, g2, g3, g4, _, _, _, rfl, rfl, rfl, h2, h1, by omega, by omega⟩)))
  · omega

theorem val_of {k : IntKind} {s t v : Int} (h : s = t) (h2 : v = t) : Value.int k v = Value.int k s := by rw [h, h2]
theorem val_of2 {k : IntKind} {s t v z a A : Int} (h : s = t) (h1 : z = a * t / A) (h2 : v = z) : Value.int k v = Value.int k (a * s / A) := by rw [h, h2, h1]

/-- the block of an owned row is one of the call's own -/
theorem own_ge {w : World} {B : Nat} {e : TypeId} {n : Nat} {v : Value} {xs : List Value} (h : w.ownsRow B e 1 v n xs) : ∀ k, v.ownBlock = some k → B ≤ k := by
  intro k hk
  rcases h.2 with ⟨rfl, _⟩ | ⟨g, cap, cur, rfl, hg, _⟩
  · cases hk
  · simp [Value.ownBlock] at hk; omega

set_option maxHeartbeats 16000000 in
set_option maxRecDepth 100000 in
theorem whole_walk (a : Int) (b off len cap : Nat) (zs : List Int) (w : World) (hreach : len * 8 ≤ 140737488351232) (hz : len ≤ zs.length) (hbw : b < w.heap.size)
    (hc : ∀ j, j < zs.length → w.cell? ⟨b, off + j, none⟩ = some (.int .i64 (zs.getD j 0))) (hr : ∀ j : Nat, -9223372036854775808 ≤ zs[j]?.getD 0 ∧ zs[j]?.getD 0 ≤ 9223372036854775807) :
    Calls Try.prog 5 #[.int .i64 a, .slice (some ⟨b, off, none⟩) len cap] w fun e w' => e = .returned (.bool true) ∧ Below w.heap.size w w' := by
  obtain ⟨i0, hi, hz0, hz1, hz2⟩ := info_parts info3
  by_cases ha : lenB a = true
  · obtain ⟨a1, a2⟩ := lenB_yes ha
    go_enter Try.func5, Try.ntmps5
    go_wp2_with fail
    refine (shown_any _).mono ?_
    rintro e w1 ⟨rfl, hb⟩
    go_wp2_with fail
    have hB0 : Below w.heap.size w (w1.alloc (.cells #[] 3)) := hb.alloc hb.size _
    have hrow := empty_row w1 w.heap.size hb.size 3
    obtain ⟨W1, hW1⟩ : ∃ W, w1.alloc (.cells #[] 3) = W := ⟨_, rfl⟩
    obtain ⟨v0, hv0⟩ : ∃ v, Value.slice (some ⟨w1.heap.size, 0, none⟩) 0 0 = v := ⟨_, rfl⟩
    rw [hW1] at hB0 hrow
    rw [hv0] at hrow
    have HW1 : Hid (w1.alloc (.cells #[] 3) = W1) := hW1
    have HV : Hid (Value.slice (some ⟨w1.heap.size, 0, none⟩) 0 0 = v0) := hv0
    rw [hW1, hv0]
    clear hW1 hv0
    go_loopw [6, 7, 8] (fun va vl vi wr => ∃ (k : Nat) (L : List Int) (A : Int), vi = .int .i64 k ∧ k ≤ len ∧ L.length = k ∧ va = .int .i64 A ∧ Fil L A ∧ wr.ownsRow w.heap.size 3 1 vl k (L.map (Value.int .i64)) ∧ Below w.heap.size w wr)
      (fun _ _ vi _ => len - (intOf vi).toNat)
    case atStart => exact ⟨0, [], 0, rfl, Nat.zero_le _, rfl, rfl, Fil.start, hrow, hB0⟩
    case round =>
      obtain ⟨k, L, A, rfl, hk, hL, rfl, hF, hown, hbl⟩ := hrel
      have hF1 := hF.nn
      have hF2 := hF.le
      clear hrow hB0 hb HW1 HV
      by_cases hlt : k < len
      · have hck := (hbl.cell (p := ⟨b, off + k, none⟩) hbw).trans (hc k (by omega))
        have hrk := hr k
        clear hc hr
        go_wp2_with fail
        refine (pick_any _ _ hrk.1 hrk.2 (by omega) (by omega) _).mono ?_
        rintro e w2 ⟨v, rfl, v0, v1, rfl⟩
        by_cases hbig : 70368744177664 - A < v
        · go_wp2_with (at_builtin; refine wpList_append_own _ rfl _ _ 39 rfl w.heap.size 3 i0 (.int .i64 0) 1 8 Try.underlying39 hi hz0 hz1 hz2 rfl (by decide) _ _ _ rfl (hown.alloc _) ⟨w2.heap.size, 0, none⟩ 1 1 [.int .i64 0] rfl rfl ?c1 ?c2 ?c3 ?c4 ?c5 ?_)
          case c1 => exact cell_one_new _ _ _
          case c2 => intro u hu; simp at hu; subst hu; rfl
          case c3 => unfold maxLen; omega
          case c4 => omega
          case c5 => have := hbl.size; simp; omega
          intro v' w3 hown' hgrow _
          have hbl3 := (hbl.alloc hbl.size _).grown hgrow (by have := hbl.size; simp; omega) (own_ge hown)
          have hF3 := hF.more (v := 0) (by omega) (by omega)
          clear hgrow hown hbl hF
          go_wp2_with fail
          go_roundw
          case rel => exact ⟨k + 1, L ++ [0], A + 0, by go_num, by omega, by simp [hL], by simp, hF3, by rw [List.map_append]; exact hown', hbl3⟩
          case measure => simp [intOf]; omega
        · go_wp2_with (at_builtin; refine wpList_append_own _ rfl _ _ 39 rfl w.heap.size 3 i0 (.int .i64 0) 1 8 Try.underlying39 hi hz0 hz1 hz2 rfl (by decide) _ _ _ rfl (hown.alloc _) ⟨w2.heap.size, 0, none⟩ 1 1 [.int .i64 v] rfl rfl ?c1 ?c2 ?c3 ?c4 ?c5 ?_)
          case c1 => exact cell_one_new _ _ _
          case c2 => intro u hu; simp at hu; subst hu; rfl
          case c3 => unfold maxLen; omega
          case c4 => omega
          case c5 => have := hbl.size; simp; omega
          intro v' w3 hown' hgrow _
          have hbl3 := (hbl.alloc hbl.size _).grown hgrow (by have := hbl.size; simp; omega) (own_ge hown)
          have hF3 := hF.more (v := v) (by omega) (by omega)
          clear hgrow hown hbl hF
          go_wp2_with fail
          go_roundw
          case rel => exact ⟨k + 1, L ++ [v], A + v, by go_num, by omega, by simp [hL], by go_num, hF3, by rw [List.map_append]; exact hown', hbl3⟩
          case measure => simp [intOf]; omega
      · have hkl : k = len := by omega
        have hkm : k ≤ 140737488351232 := by omega
        clear hc hr hz hreach
        by_cases hA : A < 1
        · go_wp2_with fail
          go_ret
          exact ⟨rfl, hbl⟩
        · have hex := row_open hown (by rintro rfl; have := hF.eq; simp [sumL] at this; omega)
          obtain ⟨g, cap2, hv, hcells⟩ := hex
          rw [hv]
          clear hown hv
          have HL : Hid (L.length = k) := hL
          have HK : Hid (k = len) := hkl
          clear hL hkl
          obtain ⟨W, hW⟩ : ∃ W, wr = W := ⟨_, rfl⟩
          rw [hW] at hbl hcells
          rw [hW]
          clear hW
          go_wp2_with fail
          go_loopw [10, 11, 12] (fun vs vt vi wz => ∃ (i : Nat), vi = .int .i64 i ∧ i ≤ k ∧ vt = .int .i64 (sumL (L.take i)) ∧ vs = .int .i64 (a * sumL (L.take i) / A) ∧ ∃ n, wz = W.drewN n) (fun _ _ vi _ => k - (intOf vi).toNat)
          case atStart => exact ⟨0, rfl, Nat.zero_le _, rfl, by simp [sumL], 0, rfl⟩
          case round =>
            obtain ⟨i, rfl, hik, rfl, rfl, n, rfl⟩ := hrel
            by_cases hi2 : i < k
            · have hcl := hcells i (by rw [HL.out]; exact hi2)
              have hat := hF.at (i := i) (by rw [HL.out]; exact hi2)
              obtain ⟨l, hl⟩ : ∃ l, L[i]'(by rw [HL.out]; exact hi2) = l := ⟨_, rfl⟩
              rw [hl] at hcl hat
              obtain ⟨T, hT⟩ : ∃ T, sumL (L.take i) = T := ⟨_, rfl⟩
              rw [hT] at hat
              rw [hT]
              obtain ⟨t0, t1, t2, t3⟩ := hat
              have HT : Hid (sumL (L.take (i + 1)) = T + l) := t2
              have st := share_step ha t0 t1 t3 (by omega) hF2
              have fb := floor_bound (n := T) ha t0 (by omega) (show 1 ≤ A by omega)
              have fb2 := floor_bound (n := T + l) ha (by omega) t3 (show 1 ≤ A by omega)
              obtain ⟨x, hx⟩ : ∃ x, shareV a T (T + l) A = x := ⟨_, rfl⟩
              obtain ⟨S, hS⟩ : ∃ S, a * T / A = S := ⟨_, rfl⟩
              rw [hx, hS] at st
              rw [hS] at fb
              rw [hS]
              obtain ⟨s1, s2, s3, s4, s5, s6⟩ := st
              rw [← s6] at fb2
              have H6 : Hid (S + x = a * (T + l) / A) := s6
              clear t2 s6 hl hT hS
              obtain ⟨f1, f2⟩ := fb; obtain ⟨f3, f4⟩ := fb2
              have hxx : Hid (shareV a T (T + l) A = x) := hx
              clear hx
              go_wp2_with fail
              refine (share_any _ _ _ _ _).mono ?_
              rintro e w5 ⟨rfl, n2, rfl⟩
              rw [hxx.out]
              have hA1 : 1 ≤ A := by omega
              have W1 := whole_sign (a := a) (x := x) s2 s3
              have W2 : (l ≤ 0 ∧ x ≤ 0 ∧ 0 ≤ x) ∨ 0 < l := by
                rcases Int.lt_or_le 0 l with h | h
                · exact Or.inr h
                · exact Or.inl ⟨h, by have := s1 (by omega); omega, by have := s1 (by omega); omega⟩
              have W3 := whole_small (a := a) t1 hA1 s4 s5
              clear s1 s2 s3 s4 s5 hxx hcells hbl HL HK hF hbw hi hz0 hz1 hz2 ha hA
              rcases W1 with ⟨p1, p2⟩ | ⟨p1, p2⟩ | ⟨p1, p2, p3, p4⟩
              all_goals rcases W2 with ⟨q1, q2, q3⟩ | q1
              all_goals rcases W3 with r1 | ⟨r1, r2⟩ | ⟨r1, r2, r3⟩ | ⟨r1, r2, r3, r4⟩ | ⟨r1, r2, r3, r4, P1, P2, P3, g1, g2, g3, g4, g5, g6, g7⟩
              all_goals try (exfalso; clear HT H6; omega)
              all_goals
                go_wp2_with fail
                go_roundw
                case rel => exact ⟨i + 1, by go_num, by omega, val_of HT.out (by omega), val_of2 HT.out H6.out (by omega), n + n2, by simp [World.drewN]⟩
                case measure => simp [intOf]; omega
            · have hend : Hid (a * sumL (L.take i) / A = a) := by
                have : i = L.length := by rw [HL.out]; omega
                unfold Hid
                rw [this, List.take_length, ← hF.eq]
                exact Int.mul_ediv_cancel _ (by omega)
              rw [hend.out]
              go_wp2_with fail
              go_ret
              exact ⟨by simp, below_drewN hbl _⟩
  · rcases len_ways ha with g | ⟨g, g1⟩
    all_goals
      go_enter Try.func5, Try.ntmps5
      go_wp2_with fail
      refine (shown_any _).mono ?_
      rintro e w1 ⟨rfl, hb⟩
      go_wp2_with fail
      go_ret
      exact ⟨rfl, hb⟩
end Go.Proofs.Ytolccoghlclidaa
