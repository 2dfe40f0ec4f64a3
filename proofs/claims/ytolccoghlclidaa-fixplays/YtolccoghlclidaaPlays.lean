import Derived.Test.YtolccoghlclidaaInv
import Derived.Test.YtolccoghlclidaaWholeMath
import Derived.Lib.SmallJoins
namespace Go.Proofs.Ytolccoghlclidaa
open Go.RowKit

theorem info31 : (Try.prog.info? 31).map (fun i => (i.zero, i.size, i.bytes)) = some (some (Value.agg #[.pointer none, .pointer none]), 2, 16) := by kernel_rfl
theorem empty_pairs (w : World) (B : Nat) (h : B ≤ w.heap.size) : (w.alloc (.cells #[] 31)).ownsRow B 31 2 (.slice (some ⟨w.heap.size, 0, none⟩) 0 0) 0 [] := by
  refine ⟨rfl, Or.inr ⟨w.heap.size, 0, #[], rfl, h, ?_, by omega, by decide, rfl, rfl⟩⟩
  show (w.heap.push _)[w.heap.size]? = _
  simp
/-- where the script lies: step by step five numbers -/
def Steps (w : World) (b off len : Nat) : Prop :=
  ∀ i, i < len → ∃ k on x y z : Int, (w.cell? ⟨b, off + i * 5, none⟩ = some (.int .i64 k) ∧ w.cell? ⟨b, off + i * 5 + 1, none⟩ = some (.int .i64 on) ∧ w.cell? ⟨b, off + i * 5 + 2, none⟩ = some (.int .i64 x) ∧ w.cell? ⟨b, off + i * 5 + 3, none⟩ = some (.int .i64 y) ∧ w.cell? ⟨b, off + i * 5 + 4, none⟩ = some (.int .i64 z)) ∧
    (-9223372036854775808 ≤ on ∧ on ≤ 9223372036854775807) ∧ (-9223372036854775808 ≤ x ∧ x ≤ 9223372036854775807) ∧ (-9223372036854775808 ≤ y ∧ y ≤ 9223372036854775807)

/-- a new pair, and the block in which append finds it -/
theorem fresh_pair (w : World) (f : Bool) (g : Nat) (hg : g < w.heap.size) (o : Obj) : Good w.heap.size g (((w.alloc (.cells #[.bool f] 44)).alloc (.cells #[.bool f] 29)).alloc o) ⟨w.heap.size, w.heap.size + 1, f⟩ := by
  refine ⟨?_, ?_, ?_, ?_, Nat.le_refl _, by simp, by show w.heap.size ≠ g; omega, by show w.heap.size + 1 ≠ g; omega, by simp⟩
  · show World.cell? _ ⟨w.heap.size, 0, none⟩ = _; simp [go_sem]
  · show World.cell? _ ⟨w.heap.size + 1, 0, none⟩ = _; simp [go_sem]
  · show World.frozen? _ ⟨w.heap.size, 0, none⟩ = _; simp [go_sem]
  · show World.frozen? _ ⟨w.heap.size + 1, 0, none⟩ = _; simp [go_sem]
theorem three_below (w : World) (o1 o2 o3 : Obj) : Below w.heap.size w (((w.alloc o1).alloc o2).alloc o3) := (((Below.refl _ _).alloc (Nat.le_refl _) o1).alloc (by simp) o2).alloc (by simp; omega) o3
theorem news_pair (w : World) (o1 o2 : Obj) (p q : Value) (t : TypeId) : ∀ j u, [p, q][j]? = some u → (((w.alloc o1).alloc o2).alloc (.cells #[p, q] t)).cell? ((⟨w.heap.size + 1 + 1, 0, none⟩ : Addr).add j) = some u := by
  intro j u hu
  match j, hu with
  | 0, hu => simp at hu; subst hu; simp [go_sem, Addr.add]
  | 1, hu => simp at hu; subst hu; simp [go_sem, Addr.add]
  | (n + 2), hu => simp at hu

theorem fresh_two (w : World) (f : Bool) (g : Nat) (hg : g < w.heap.size) (o : Obj) : Good (w.alloc o).heap.size g (((w.alloc o).alloc (.cells #[.bool f] 44)).alloc (.cells #[.bool f] 29)) ⟨w.heap.size + 1, w.heap.size + 1 + 1, f⟩ := by
  refine ⟨?_, ?_, ?_, ?_, by simp, by simp, by show w.heap.size + 1 ≠ g; omega, by show w.heap.size + 1 + 1 ≠ g; omega, by simp⟩
  · show World.cell? _ ⟨w.heap.size + 1, 0, none⟩ = _; simp [go_sem]
  · show World.cell? _ ⟨w.heap.size + 1 + 1, 0, none⟩ = _; simp [go_sem]
  · show World.frozen? _ ⟨w.heap.size + 1, 0, none⟩ = _; simp [go_sem]
  · show World.frozen? _ ⟨w.heap.size + 1 + 1, 0, none⟩ = _; simp [go_sem]
theorem two_below (w : World) (o1 o2 : Obj) : Below w.heap.size w ((w.alloc o1).alloc o2) := ((Below.refl _ _).alloc (Nat.le_refl _) o1).alloc (by simp) o2
set_option maxHeartbeats 1000000 in
theorem does_other (pa pb : Addr) (k on a b c : Int) (h : k = 6 ∨ k = 7) (w : World) :
    Calls Try.prog 12 #[.agg #[.pointer (some pa), .pointer (some pb)], .agg #[.int .i64 k, .int .i64 on, .int .i64 a, .int .i64 b, .int .i64 c]] w fun e w' => e = .returned (.bool true) ∧ Below w.heap.size w w' := by
  rcases h with rfl | rfl
  all_goals
    go_enter Try.func12, Try.ntmps12
    go_wp2_with fail
    go_ret
    exact ⟨rfl, two_below _ _ _⟩
theorem four_below (w : World) (o1 o2 o3 o4 : Obj) : Below w.heap.size w ((((w.alloc o1).alloc o2).alloc o3).alloc o4) := (two_below w o1 o2).trans ((two_below _ o3 o4).mono (by simp; omega))
theorem five_below (w : World) (o1 o2 o3 o4 o5 : Obj) : Below w.heap.size w (((((w.alloc o1).alloc o2).alloc o3).alloc o4).alloc o5) := (four_below w o1 o2 o3 o4).alloc (by simp; omega) o5
theorem news_five (w : World) (o1 o2 o3 o4 : Obj) (p q : Value) (t : TypeId) : ∀ j u, [p, q][j]? = some u → (((((w.alloc o1).alloc o2).alloc o3).alloc o4).alloc (.cells #[p, q] t)).cell? ((⟨w.heap.size + 1 + 1 + 1 + 1, 0, none⟩ : Addr).add j) = some u := by
  intro j u hu
  match j, hu with
  | 0, hu => simp at hu; subst hu; simp [go_sem, Addr.add]
  | 1, hu => simp at hu; subst hu; simp [go_sem, Addr.add]
  | (n + 2), hu => simp at hu
theorem xbox_five (w : World) (o2 o3 o4 o5 : Obj) (p q : Value) (t : TypeId) : (((((w.alloc (.cells #[p, q] t)).alloc o2).alloc o3).alloc o4).alloc o5).cell? ⟨w.heap.size, 0, none⟩ = some p ∧ (((((w.alloc (.cells #[p, q] t)).alloc o2).alloc o3).alloc o4).alloc o5).cell? ⟨w.heap.size, 1, none⟩ = some q := by
  constructor <;> simp [go_sem]
theorem xbox_four (w : World) (o2 o3 o4 : Obj) (p q : Value) (t : TypeId) : ((((w.alloc (.cells #[p, q] t)).alloc o2).alloc o3).alloc o4).cell? ⟨w.heap.size, 0, none⟩ = some p ∧ ((((w.alloc (.cells #[p, q] t)).alloc o2).alloc o3).alloc o4).cell? ⟨w.heap.size, 1, none⟩ = some q := by
  constructor <;> simp [go_sem]
theorem ybox_four (w : World) (o1 o2 o3 : Obj) (p q : Value) (t : TypeId) : ((((w.alloc o1).alloc o2).alloc o3).alloc (.cells #[p, q] t)).cell? ⟨w.heap.size + 1 + 1 + 1, 0, none⟩ = some p ∧ ((((w.alloc o1).alloc o2).alloc o3).alloc (.cells #[p, q] t)).cell? ⟨w.heap.size + 1 + 1 + 1, 1, none⟩ = some q := by
  constructor <;> simp [go_sem]
theorem row_some {w : World} {B g cap : Nat} {P : List Pr} (row : w.ownsRow B 31 2 (.slice (some ⟨g, 0, none⟩) P.length cap) P.length (cellsOf P)) (j : Nat) (h : j < P.length * 2) : ∃ v, w.cell? ⟨g, j, none⟩ = some v := by
  rw [row.cellAt j h]
  have := cellsOf_length P
  exact ⟨_, List.getElem?_eq_getElem (by omega)⟩
theorem far_two {w : World} {g p a b o : Nat} {u v : Value} {c : Option Value} (h : ¬ p = g) (hc : w.cell? ⟨p, o, none⟩ = c) : ((w.setCell ⟨g, a, none⟩ u).setCell ⟨g, b, none⟩ v).drew.cell? ⟨p, o, none⟩ = c := by
  show World.cell? ((w.setCell ⟨g, a, none⟩ u).setCell ⟨g, b, none⟩ v) ⟨p, o, none⟩ = c
  rw [World.cell?_of_block (Below.heap_setCell _ _ _ _ h), World.cell?_of_block (Below.heap_setCell _ _ _ _ h)]
  exact hc
theorem below_alloc1 (w : World) (o : Obj) : Below w.heap.size w (w.alloc o) := (Below.refl _ _).alloc (Nat.le_refl _) o
theorem five_new (w : World) (a b c d e : Value) (t : TypeId) : (w.alloc (.cells #[a, b, c, d, e] t)).cell? ⟨w.heap.size, 0, none⟩ = some a ∧ (w.alloc (.cells #[a, b, c, d, e] t)).cell? ⟨w.heap.size, 1, none⟩ = some b ∧ (w.alloc (.cells #[a, b, c, d, e] t)).cell? ⟨w.heap.size, 2, none⟩ = some c ∧ (w.alloc (.cells #[a, b, c, d, e] t)).cell? ⟨w.heap.size, 3, none⟩ = some d ∧ (w.alloc (.cells #[a, b, c, d, e] t)).cell? ⟨w.heap.size, 4, none⟩ = some e := by
  refine ⟨?_, ?_, ?_, ?_, ?_⟩ <;> simp [go_sem]

set_option maxHeartbeats 2000000 in
set_option maxRecDepth 100000 in
theorem plays_walk (b off len cap : Nat) (w : World) (hbw : b < w.heap.size) (hlen : len ≤ 9223372036854775807) (hst : Steps w b off len) :
    Calls Try.prog 3 #[.slice (some ⟨b, off, none⟩) len cap] w fun e w' => e = .returned (.bool true) ∧ Below w.heap.size w w' := by
  obtain ⟨i0, hi, hz0, hz1, hz2⟩ := info_parts info31
  have HS : Hid (Steps w b off len) := hst
  clear hst
  go_enter Try.func3, Try.ntmps3
  go_wp2_with fail
  refine (shown_any _).mono ?_
  rintro e w1 ⟨rfl, hb⟩
  go_wp2_with fail
  have hB0 : Below w.heap.size w (w1.alloc (.cells #[] 31)) := hb.alloc hb.size _
  have hrow := empty_pairs w1 w.heap.size hb.size
  have hP0 : Hid (Plays w.heap.size w (w1.alloc (.cells #[] 31)) w1.heap.size 0 []) := ⟨hrow, by intro i x hx; simp at hx, by intro i j x y hx; simp at hx, hB0, Nat.le_refl _⟩
  clear hB0 hrow
  obtain ⟨W1, hW1⟩ : ∃ W, w1.alloc (.cells #[] 31) = W := ⟨_, rfl⟩
  obtain ⟨g0, hg0⟩ : ∃ g, w1.heap.size = g := ⟨_, rfl⟩
  rw [hW1, hg0] at hP0
  rw [hW1, hg0]
  clear hW1 hg0 hb
  go_loopw [4, 5] (fun vl vi wr => ∃ (P : List Pr) (g cap : Nat), vl = .slice (some ⟨g, 0, none⟩) P.length cap ∧ vi = .int .i64 P.length ∧ P.length ≤ 2 ∧ Plays w.heap.size w wr g cap P) (fun _ vi _ => 2 - (intOf vi).toNat)
  case atStart => exact ⟨[], g0, 0, rfl, rfl, by simp, hP0⟩
  case round =>
    obtain ⟨P, g, cap1, rfl, rfl, hP2, hPl⟩ := hrel
    clear hP0
    by_cases hlt : P.length < 2
    · have hsz := hPl.below.size
      have hfr := fresh_pair wr false g hPl.gB.2 (.cells #[.pointer (some ⟨wr.heap.size, 0, none⟩), .pointer (some ⟨wr.heap.size + 1, 0, none⟩)] 31)
      go_wp2_with fail
      refine (new_any _).mono ?_
      rintro e w2 ⟨rfl, rfl⟩
      go_wp2_with (at_builtin; refine wpList_append_own _ rfl _ _ 24 rfl w.heap.size 31 i0 (.agg #[.pointer none, .pointer none]) 2 16 Try.underlying24 hi hz0 hz1 hz2 rfl (by decide) _ _ _ rfl (((hPl.row.alloc _).alloc _).alloc _) ⟨wr.heap.size + 1 + 1, 0, none⟩ 1 1 [.pointer (some ⟨wr.heap.size, 0, none⟩), .pointer (some ⟨wr.heap.size + 1, 0, none⟩)] rfl rfl ?c1 ?c2 ?c3 ?c4 ?c5 ?_)
      case c1 => exact news_pair _ _ _ _ _ _
      case c2 => intro u hu; simp at hu; rcases hu with rfl | rfl <;> rfl
      case c3 => unfold maxLen; omega
      case c4 => omega
      case c5 => simp; omega
      intro v' w3 hown' hgrow _
      obtain ⟨g2, cap2, hv⟩ := Go.Joins.ownsRow_form hown' (by omega)
      rw [hv]
      rw [hv] at hown'
      have hPl2 := hPl.more (three_below wr _ _ _) hfr hown' hgrow
      clear hown' hgrow hPl hfr hv
      go_wp2_with fail
      go_roundw
      case rel => exact ⟨P ++ [⟨wr.heap.size, wr.heap.size + 1, false⟩], g2, cap2, by simp, by simp, by simp; omega, hPl2⟩
      case measure => simp [intOf]; omega
    · go_wp2_with fail
      go_loopw [4, 7] (fun vl vi wz => ∃ (P : List Pr) (g cap i : Nat), vl = .slice (some ⟨g, 0, none⟩) P.length cap ∧ vi = .int .i64 i ∧ i ≤ len ∧ 2 ≤ P.length ∧ P.length ≤ 4 ∧ Plays w.heap.size w wz g cap P) (fun _ vi _ => len - (intOf vi).toNat)
      case atStart => exact ⟨P, g, cap1, 0, rfl, rfl, Nat.zero_le _, by omega, by omega, hPl⟩
      case round =>
        clear hPl hP2 hlt
        obtain ⟨P, g, cap1, i, rfl, rfl, hil, hP2, hP4, hPl⟩ := hrel
        have hsz := hPl.below.size
        by_cases hlt : i < len
        · obtain ⟨k, on, x, y, z, ⟨k1, k2, k3, k4, k5⟩, ⟨k6, k7⟩, ⟨k8, k9⟩, ⟨k10, k11⟩⟩ := HS.out i hlt
          have q1 := (hPl.below.cell (p := ⟨b, off + i * 5, none⟩) hbw).trans k1
          have q2 := (hPl.below.cell (p := ⟨b, off + i * 5 + 1, none⟩) hbw).trans k2
          have q3 := (hPl.below.cell (p := ⟨b, off + i * 5 + 2, none⟩) hbw).trans k3
          have q4 := (hPl.below.cell (p := ⟨b, off + i * 5 + 3, none⟩) hbw).trans k4
          have q5 := (hPl.below.cell (p := ⟨b, off + i * 5 + 4, none⟩) hbw).trans k5
          clear k1 k2 k3 k4 k5
          go_wp2_with fail
          refine (pick_any _ _ k6 k7 (by omega) (by omega) _).mono ?_
          rintro e w2 ⟨n0, rfl, n1, n2, rfl⟩
          obtain ⟨n, rfl⟩ := Int.eq_ofNat_of_zero_le n1
          have hn : n < P.length := by omega
          obtain ⟨X, hX⟩ : ∃ X, P[n]? = some X := ⟨P[n], by simp [hn]⟩
          have hPl1 := hPl.later (below_alloc1 wr (.cells #[.int .i64 k, .int .i64 on, .int .i64 x, .int .i64 y, .int .i64 z] 33))
          have hbx := five_new wr (.int .i64 k) (.int .i64 on) (.int .i64 x) (.int .i64 y) (.int .i64 z) 33
          have hsz1 : wr.heap.size < (wr.alloc (.cells #[.int .i64 k, .int .i64 on, .int .i64 x, .int .i64 y, .int .i64 z] 33)).heap.size := by simp
          clear q1 q2 q3 q4 q5 n1 n2
          obtain ⟨WA, hWA⟩ : ∃ W, wr.alloc (.cells #[.int .i64 k, .int .i64 on, .int .i64 x, .int .i64 y, .int .i64 z] 33) = W := ⟨_, rfl⟩
          rw [hWA] at hPl1 hbx hsz1
          rw [hWA]
          obtain ⟨bo, hbo⟩ : ∃ bo, wr.heap.size = bo := ⟨_, rfl⟩
          rw [hbo] at hbx hsz1
          rw [hbo]
          have hgo : Hid (g < bo) := by have := hPl.gB.2; unfold Hid; omega
          clear hWA hbo hPl hsz
          obtain ⟨o1, o2, o3, o4, o5⟩ := hbx
          have hat := hPl1.at n X hX
          have hgd := hPl1.each n X hX
          obtain ⟨m1, m2⟩ := hat
          rw [Nat.mul_comm] at m1 m2
          by_cases h6 : k = 6
          · subst h6
            have hrf := fun j => hPl1.row.frozenAt j
            have hgo2 := hgo.out
            have hgs := hPl1.gB.2
            have hPl2 := hPl1.later (below_alloc1 WA (.cells #[.pointer (some X.a), .pointer (some X.b)] 31))
            have hgd2 := hgd.below (below_alloc1 WA (.cells #[.pointer (some X.a), .pointer (some X.b)] 31))
            have cXb : ∀ o1 o2, ((WA.alloc o1).alloc o2).cell? X.b = some (.bool X.f) := fun o1 o2 => ((two_below WA o1 o2).cell hgd.ltb).trans hgd.cb
            by_cases h4 : P.length < 4
            · go_wp2_with fail
              refine (clone_any X.a X.f _ (by exact hgd2.ca)).mono ?_
              rintro e w3 ⟨rfl, rfl⟩
              go_wp2_with (at_builtin; refine wpList_append_own _ rfl _ _ 24 rfl w.heap.size 31 i0 (.agg #[.pointer none, .pointer none]) 2 16 Try.underlying24 hi hz0 hz1 hz2 rfl (by decide) _ _ _ rfl ((((hPl2.row.alloc _).alloc _).alloc _).alloc _) ⟨WA.heap.size + 1 + 1 + 1 + 1, 0, none⟩ 1 1 [.pointer (some ⟨WA.heap.size + 1, 0, none⟩), .pointer (some ⟨WA.heap.size + 1 + 1, 0, none⟩)] rfl rfl ?c1 ?c2 ?c3 ?c4 ?c5 ?_)
              case c1 => exact news_five _ _ _ _ _ _ _ _
              case c2 => intro u hu; simp at hu; rcases hu with rfl | rfl <;> rfl
              case c3 => unfold maxLen; omega
              case c4 => omega
              case c5 => have := hPl1.below.size; simp; omega
              intro v' w5 hown' hgrow _
              have hne : ∀ q : Nat, q ≠ g → some q ≠ some g := fun q h e => h (by simpa using e)
              have d1 := hgrow.cell (((five_below WA _ _ _ _ _).cell (p := ⟨bo, 0, none⟩) hsz1).trans o1) (hne bo (by omega))
              have d2 := hgrow.cell (((five_below WA _ _ _ _ _).cell (p := ⟨bo, 1, none⟩) hsz1).trans o2) (hne bo (by omega))
              have d3 := hgrow.cell (((five_below WA _ _ _ _ _).cell (p := ⟨bo, 2, none⟩) hsz1).trans o3) (hne bo (by omega))
              have d4 := hgrow.cell (((five_below WA _ _ _ _ _).cell (p := ⟨bo, 3, none⟩) hsz1).trans o4) (hne bo (by omega))
              have d5 := hgrow.cell (((five_below WA _ _ _ _ _).cell (p := ⟨bo, 4, none⟩) hsz1).trans o5) (hne bo (by omega))
              have d6 := hgrow.cell (xbox_five WA _ _ _ _ _ _ _).1 (hne WA.heap.size (by omega))
              have d7 := hgrow.cell (xbox_five WA _ _ _ _ _ _ _).2 (hne WA.heap.size (by omega))
              obtain ⟨g2, cap2, hv⟩ := Go.Joins.ownsRow_form hown' (by omega)
              rw [hv]
              rw [hv] at hown'
              have hPl3 := hPl2.more (four_below _ _ _ _ _) ((fresh_two WA X.f g hgs (.cells #[.pointer (some X.a), .pointer (some X.b)] 31)).below (two_below _ _ _)) hown' hgrow
              have hl3 : (P ++ [(⟨WA.heap.size + 1, WA.heap.size + 1 + 1, X.f⟩ : Pr)]).length = P.length + 1 := by simp
              obtain ⟨P3, hP3⟩ : ∃ P3, P ++ [(⟨WA.heap.size + 1, WA.heap.size + 1 + 1, X.f⟩ : Pr)] = P3 := ⟨_, rfl⟩
              rw [hP3] at hl3 hPl3
              rw [← hl3]
              have hP2' : 2 ≤ P3.length := by omega
              have hP4' : P3.length ≤ 4 := by omega
              clear hown' hgrow hv hne hP3 hPl1 hPl2 hgd hgd2 cXb hrf o1 o2 o3 o4 o5 m1 m2 hl3
              go_wp2_with fail
              refine (does_other X.a X.b 6 on x y z (Or.inl rfl) _).mono ?_
              rintro e WD ⟨rfl, hBo⟩
              have hPl4 := hPl3.later hBo
              clear hPl3 hBo d1 d2 d3 d4 d5 d6 d7 hgo2 hgs
              have hPl3 := hPl4
              have hP2 := hP2'
              have hP4 := hP4'
              clear hPl4 hP2' hP4' h4 hX hn
              go_wp2_with fail
              go_loopw [15] (fun vk wz => ∃ j : Nat, vk = .int .i64 j ∧ j ≤ P3.length ∧ ∃ nq, wz = WD.drewN nq) (fun vk _ => P3.length - (intOf vk).toNat)
              case atStart => exact ⟨0, rfl, Nat.zero_le _, 0, rfl⟩
              case round =>
                obtain ⟨j, rfl, hj, nq, rfl⟩ := hrel
                by_cases hlt3 : j < P3.length
                · obtain ⟨Y, hY⟩ : ∃ Y, P3[j]? = some Y := ⟨P3[j], by simp [hlt3]⟩
                  have hY1 := hPl3.at j Y hY
                  have hY2 := hPl3.each j Y hY
                  obtain ⟨y1, y2⟩ := hY1
                  rw [Nat.mul_comm] at y1 y2
                  have y3 := hY2.ca
                  have y4 := hY2.cb
                  clear hY2 hY
                  go_wp2_with fail
                  have hj2 : (j : Int) < (P3.length : Int) := by omega
                  have hS := And.intro y1 (And.intro y2 (And.intro y3 y4))
                  go_region_held3 (fun w' => w'.cell? ⟨g2, j * 2, none⟩ = some (.pointer (some Y.a)) ∧ w'.cell? ⟨g2, j * 2 + 1, none⟩ = some (.pointer (some Y.b)) ∧ w'.cell? Y.a = some (.bool Y.f) ∧ w'.cell? Y.b = some (.bool Y.f))
                    (exact hS) (first | (go_at_call 13; refine (wrong_any Y.a Y.f _ (by exact y3)).mono ?_; rintro e w5 ⟨rfl, rfl⟩))
                  go_wp2_with fail
                  go_roundw
                  case rel => exact ⟨j + 1, by go_num, by omega, _, rfl⟩
                  case measure => simp [intOf]; omega
                · go_wp2_with fail
                  go_roundw
                  case rel => exact ⟨P3, g2, cap2, i + 1, rfl, by go_num, by omega, hP2, hP4, hPl3.later (below_drewN (Below.refl _ _) _)⟩
                  case measure => simp [intOf]; omega
            · have e4 : P.length = 4 := by omega
              have HE4 : Hid (P.length = 4) := e4
              clear e4
              go_wp2_with fail
              refine (clone_any X.a X.f _ (by exact hgd2.ca)).mono ?_
              rintro e w3 ⟨rfl, rfl⟩
              go_wp2_with fail
              have hfy := (fresh_two WA X.f g hgs (.cells #[.pointer (some X.a), .pointer (some X.b)] 31)).below (below_alloc1 _ (.cells #[.pointer (some ⟨WA.heap.size + 1, 0, none⟩), .pointer (some ⟨WA.heap.size + 1 + 1, 0, none⟩)] 31))
              have hB4 := three_below (WA.alloc (.cells #[.pointer (some X.a), .pointer (some X.b)] 31)) (.cells #[.bool X.f] 44) (.cells #[.bool X.f] 29) (.cells #[.pointer (some ⟨WA.heap.size + 1, 0, none⟩), .pointer (some ⟨WA.heap.size + 1 + 1, 0, none⟩)] 31)
              have hX4 := xbox_four WA (.cells #[.bool X.f] 44) (.cells #[.bool X.f] 29) (.cells #[.pointer (some ⟨WA.heap.size + 1, 0, none⟩), .pointer (some ⟨WA.heap.size + 1 + 1, 0, none⟩)] 31) (.pointer (some X.a)) (.pointer (some X.b)) 31
              have hY4 := ybox_four WA (.cells #[.pointer (some X.a), .pointer (some X.b)] 31) (.cells #[.bool X.f] 44) (.cells #[.bool X.f] 29) (.pointer (some ⟨WA.heap.size + 1, 0, none⟩)) (.pointer (some ⟨WA.heap.size + 1 + 1, 0, none⟩)) 31
              have hA4 := four_below WA (.cells #[.pointer (some X.a), .pointer (some X.b)] 31) (.cells #[.bool X.f] 44) (.cells #[.bool X.f] 29) (.cells #[.pointer (some ⟨WA.heap.size + 1, 0, none⟩), .pointer (some ⟨WA.heap.size + 1 + 1, 0, none⟩)] 31)
              obtain ⟨WF, hWF⟩ : ∃ W, ((((WA.alloc (.cells #[.pointer (some X.a), .pointer (some X.b)] 31)).alloc (.cells #[.bool X.f] 44)).alloc (.cells #[.bool X.f] 29)).alloc (.cells #[.pointer (some ⟨WA.heap.size + 1, 0, none⟩), .pointer (some ⟨WA.heap.size + 1 + 1, 0, none⟩)] 31)) = W := ⟨_, rfl⟩
              rw [hWF] at hfy hB4 hX4 hY4 hA4
              rw [hWF]
              have hPlF := hPl2.later hB4
              have d1 := (hA4.cell (p := ⟨bo, 0, none⟩) hsz1).trans o1
              have d2 := (hA4.cell (p := ⟨bo, 1, none⟩) hsz1).trans o2
              have d3 := (hA4.cell (p := ⟨bo, 2, none⟩) hsz1).trans o3
              have d4 := (hA4.cell (p := ⟨bo, 3, none⟩) hsz1).trans o4
              have d5 := (hA4.cell (p := ⟨bo, 4, none⟩) hsz1).trans o5
              have cG : Hid (∀ j, j < P.length * 2 → ∃ v, WF.cell? ⟨g, j, none⟩ = some v) := fun j hj => row_some hPlF.row j hj
              have cF : ∀ j, WF.frozen? ⟨g, j, none⟩ = false := fun j => hPlF.row.frozenAt j
              have HPUT : Hid (∀ m, m < P.length → Plays w.heap.size w ((WF.setCell ⟨g, m * 2, none⟩ (.pointer (some ⟨WA.heap.size + 1, 0, none⟩))).setCell ⟨g, m * 2 + 1, none⟩ (.pointer (some ⟨WA.heap.size + 1 + 1, 0, none⟩))) g cap1 (P.set m ⟨WA.heap.size + 1, WA.heap.size + 1 + 1, X.f⟩)) := by
                intro m hm
                have := hPl2.put hB4 hfy m hm
                rw [Nat.mul_comm 2 m] at this
                exact this
              have hbg : ¬ bo = g := by omega
              have hxg : ¬ WA.heap.size = g := by omega
              have hyg : ¬ WA.heap.size + 1 + 1 + 1 = g := by omega
              obtain ⟨x1, x2⟩ := hX4
              obtain ⟨y1, y2⟩ := hY4
              clear hfy hB4 hA4 hWF hPlF hPl1 hPl2 hgd hgd2 cXb hrf o1 o2 o3 o4 o5 m1 m2 h4
              have hS := And.intro d3 (And.intro y1 y2)
              go_region_held3 (fun w' => w'.cell? ⟨bo, 2, none⟩ = some (.int .i64 x) ∧ w'.cell? ⟨WA.heap.size + 1 + 1 + 1, 0, none⟩ = some (.pointer (some ⟨WA.heap.size + 1, 0, none⟩)) ∧ w'.cell? ⟨WA.heap.size + 1 + 1 + 1, 1, none⟩ = some (.pointer (some ⟨WA.heap.size + 1 + 1, 0, none⟩)))
                (first | exact hS | exact ⟨far_two hbg d3, far_two hyg y1, far_two hyg y2⟩)
                (first | (go_at_call 10; refine (pick_any x 4 k8 k9 (by omega) (by omega) _).mono ?_; rintro e w6 ⟨m0, rfl, v1, v2, rfl⟩; obtain ⟨mm, rfl⟩ := Int.eq_ofNat_of_zero_le v1; have hmm : (mm : Int) < (P.length : Int) := (by rw [HE4.out]; exact v2); obtain ⟨w1v, s1⟩ := cG.out (mm * 2) (by omega); obtain ⟨w2v, s2⟩ := cG.out (mm * 2 + 1) (by omega)))
              go_wp2_with fail
              refine (does_other X.a X.b 6 on x y z (Or.inl rfl) _).mono ?_
              rintro e WD ⟨rfl, hBo⟩
              have hPl4 := (HPUT.out mm (by omega)).later (((Below.refl _ _).drew).trans hBo)
              clear hBo d1 d2 d3 d4 d5 x1 x2 y1 y2 s1 s2 hS cF
              have hl3 : (P.set mm ⟨WA.heap.size + 1, WA.heap.size + 1 + 1, X.f⟩).length = P.length := by simp
              obtain ⟨P3, hP3⟩ : ∃ P3, P.set mm ⟨WA.heap.size + 1, WA.heap.size + 1 + 1, X.f⟩ = P3 := ⟨_, rfl⟩
              rw [hP3] at hl3 hPl4
              have hPl3 := hPl4
              rw [← hl3]
              rw [← hl3] at hP2 hP4
              clear hPl4 hP3 hX hn hl3 hbg hxg hyg hgo2 hgs HE4 cG HPUT hmm v1 v2
              go_wp2_with fail
              go_loopw [15] (fun vk wz => ∃ j : Nat, vk = .int .i64 j ∧ j ≤ P3.length ∧ ∃ nq, wz = WD.drewN nq) (fun vk _ => P3.length - (intOf vk).toNat)
              case atStart => exact ⟨0, rfl, Nat.zero_le _, 0, rfl⟩
              case round =>
                obtain ⟨j, rfl, hj, nq, rfl⟩ := hrel
                by_cases hlt3 : j < P3.length
                · obtain ⟨Y, hY⟩ : ∃ Y, P3[j]? = some Y := ⟨P3[j], by simp [hlt3]⟩
                  have hY1 := hPl3.at j Y hY
                  have hY2 := hPl3.each j Y hY
                  obtain ⟨y1, y2⟩ := hY1
                  rw [Nat.mul_comm] at y1 y2
                  have y3 := hY2.ca
                  have y4 := hY2.cb
                  clear hY2 hY
                  go_wp2_with fail
                  have hj2 : (j : Int) < (P3.length : Int) := by omega
                  have hS := And.intro y1 (And.intro y2 (And.intro y3 y4))
                  go_region_held3 (fun w' => w'.cell? ⟨g, j * 2, none⟩ = some (.pointer (some Y.a)) ∧ w'.cell? ⟨g, j * 2 + 1, none⟩ = some (.pointer (some Y.b)) ∧ w'.cell? Y.a = some (.bool Y.f) ∧ w'.cell? Y.b = some (.bool Y.f))
                    (exact hS) (first | (go_at_call 13; refine (wrong_any Y.a Y.f _ (by exact y3)).mono ?_; rintro e w5 ⟨rfl, rfl⟩))
                  go_wp2_with fail
                  go_roundw
                  case rel => exact ⟨j + 1, by go_num, by omega, _, rfl⟩
                  case measure => simp [intOf]; omega
                · go_wp2_with fail
                  go_roundw
                  case rel => exact ⟨P3, g, cap1, i + 1, rfl, by go_num, by omega, hP2, hP4, hPl3.later (below_drewN (Below.refl _ _) _)⟩
                  case measure => simp [intOf]; omega
          by_cases h7 : k = 7
          · have hPl2 := hPl1.later (below_alloc1 WA (.cells #[.pointer (some X.a), .pointer (some X.b)] 31))
            subst h7
            clear h6
            have hng : (n : Int) < (P.length : Int) := by omega
            have hrf := fun j => hPl1.row.frozenAt j
            have hgo2 := hgo.out
            have hgs := hPl1.gB.2
            have hPl3 := hPl2.put (two_below _ (.cells #[.bool false] 44) (.cells #[.bool false] 29)) (fresh_two WA false g hgs (.cells #[.pointer (some X.a), .pointer (some X.b)] 31)) n hn
            rw [Nat.mul_comm 2 n] at hPl3
            have cA : ∀ o1 o2 o3, (((WA.alloc o1).alloc o2).alloc o3).cell? ⟨g, n * 2, none⟩ = some (.pointer (some X.a)) := fun o1 o2 o3 => ((three_below WA o1 o2 o3).cell (p := ⟨g, n * 2, none⟩) hgs).trans m1
            have cB : ∀ o1 o2 o3, (((WA.alloc o1).alloc o2).alloc o3).cell? ⟨g, n * 2 + 1, none⟩ = some (.pointer (some X.b)) := fun o1 o2 o3 => ((three_below WA o1 o2 o3).cell (p := ⟨g, n * 2 + 1, none⟩) hgs).trans m2
            have cF : ∀ o1 o2 o3 j, (((WA.alloc o1).alloc o2).alloc o3).frozen? ⟨g, j, none⟩ = false := fun o1 o2 o3 j => ((three_below WA o1 o2 o3).frozen (p := ⟨g, j, none⟩) hgs).trans (hrf j)
            have cO1 : ∀ o1 o2 o3, (((WA.alloc o1).alloc o2).alloc o3).cell? ⟨bo, 0, none⟩ = some (.int .i64 7) := fun a1 a2 a3 => ((three_below WA a1 a2 a3).cell (p := ⟨bo, 0, none⟩) hsz1).trans o1
            have cO2 : ∀ o1 o2 o3, (((WA.alloc o1).alloc o2).alloc o3).cell? ⟨bo, 1, none⟩ = some (.int .i64 on) := fun a1 a2 a3 => ((three_below WA a1 a2 a3).cell (p := ⟨bo, 1, none⟩) hsz1).trans o2
            have cO3 : ∀ o1 o2 o3, (((WA.alloc o1).alloc o2).alloc o3).cell? ⟨bo, 2, none⟩ = some (.int .i64 x) := fun a1 a2 a3 => ((three_below WA a1 a2 a3).cell (p := ⟨bo, 2, none⟩) hsz1).trans o3
            have cO4 : ∀ o1 o2 o3, (((WA.alloc o1).alloc o2).alloc o3).cell? ⟨bo, 3, none⟩ = some (.int .i64 y) := fun a1 a2 a3 => ((three_below WA a1 a2 a3).cell (p := ⟨bo, 3, none⟩) hsz1).trans o4
            have cO5 : ∀ o1 o2 o3, (((WA.alloc o1).alloc o2).alloc o3).cell? ⟨bo, 4, none⟩ = some (.int .i64 z) := fun a1 a2 a3 => ((three_below WA a1 a2 a3).cell (p := ⟨bo, 4, none⟩) hsz1).trans o5
            have hbg : ¬ bo = g := by omega
            clear hPl2 hgd hPl1
            go_wp2_with fail
            refine (new_any _).mono ?_
            rintro e w3 ⟨rfl, rfl⟩
            go_wp2_with fail
            refine (does_other X.a X.b 7 on x y z (Or.inr rfl) _).mono ?_
            rintro e WD ⟨rfl, hBo⟩
            have hPl4 := hPl3.later hBo
            clear hPl3 hBo
            have hl3 : (P.set n ⟨WA.heap.size + 1, WA.heap.size + 1 + 1, false⟩).length = P.length := by simp
            obtain ⟨P3, hP3⟩ : ∃ P3, P.set n ⟨WA.heap.size + 1, WA.heap.size + 1 + 1, false⟩ = P3 := ⟨_, rfl⟩
            rw [hP3] at hl3 hPl4
            have hPl3 := hPl4
            rw [← hl3]
            rw [← hl3] at hP2 hP4
            clear hPl4 hP3 hX hn m1 m2 o1 o2 o3 o4 o5 hl3 cA cB cF cO1 cO2 cO3 cO4 cO5 hrf hbg hgo2 hgs hng
            go_wp2_with fail
            go_loopw [15] (fun vk wz => ∃ j : Nat, vk = .int .i64 j ∧ j ≤ P3.length ∧ ∃ nq, wz = WD.drewN nq) (fun vk _ => P3.length - (intOf vk).toNat)
            case atStart => exact ⟨0, rfl, Nat.zero_le _, 0, rfl⟩
            case round =>
              obtain ⟨j, rfl, hj, nq, rfl⟩ := hrel
              by_cases hlt3 : j < P3.length
              · obtain ⟨Y, hY⟩ : ∃ Y, P3[j]? = some Y := ⟨P3[j], by simp [hlt3]⟩
                have hY1 := hPl3.at j Y hY
                have hY2 := hPl3.each j Y hY
                obtain ⟨y1, y2⟩ := hY1
                rw [Nat.mul_comm] at y1 y2
                have y3 := hY2.ca
                have y4 := hY2.cb
                clear hY2 hY
                go_wp2_with fail
                have hj2 : (j : Int) < (P3.length : Int) := by omega
                have hS := And.intro y1 (And.intro y2 (And.intro y3 y4))
                go_region_held3 (fun w' => w'.cell? ⟨g, j * 2, none⟩ = some (.pointer (some Y.a)) ∧ w'.cell? ⟨g, j * 2 + 1, none⟩ = some (.pointer (some Y.b)) ∧ w'.cell? Y.a = some (.bool Y.f) ∧ w'.cell? Y.b = some (.bool Y.f))
                  (exact hS) (first | (go_at_call 13; refine (wrong_any Y.a Y.f _ (by exact y3)).mono ?_; rintro e w5 ⟨rfl, rfl⟩))
                go_wp2_with fail
                go_roundw
                case rel => exact ⟨j + 1, by go_num, by omega, _, rfl⟩
                case measure => simp [intOf]; omega
              · go_wp2_with fail
                go_roundw
                case rel => exact ⟨P3, g, cap1, i + 1, rfl, by go_num, by omega, hP2, hP4, hPl3.later (below_drewN (Below.refl _ _) _)⟩
                case measure => simp [intOf]; omega
          have c6 : (k == 6) = false := by simpa using h6
          have c7 : (k == 7) = false := by simpa using h7
          have hPl2 := hPl1.later (below_alloc1 WA (.cells #[.pointer (some X.a), .pointer (some X.b)] 31))
          have hgd2 := hgd.below (below_alloc1 WA (.cells #[.pointer (some X.a), .pointer (some X.b)] 31))
          clear h6 h7 hgd hPl1
          go_wp2_with fail
          refine (does_any X.a X.b X.f k on x y z k10 k11 _ (by exact hgd2.ca) (by exact hgd2.cb) (by exact hgd2.fa) (by exact hgd2.fb) hgd2.ne).mono ?_
          rintro e WD ⟨rfl, hBo⟩
          obtain ⟨f3, hPl3⟩ := hPl2.done n X hX hBo
          have hl3 : (P.set n { X with f := f3 }).length = P.length := by simp
          obtain ⟨P3, hP3⟩ : ∃ P3, P.set n { X with f := f3 } = P3 := ⟨_, rfl⟩
          rw [hP3] at hl3 hPl3
          rw [← hl3]
          rw [← hl3] at hP2 hP4
          clear hPl2 hgd2 hBo hP3 hX hn m1 m2 o1 o2 o3 o4 o5 c6 c7 hl3
          go_wp2_with fail
          go_loopw [15] (fun vk wz => ∃ j : Nat, vk = .int .i64 j ∧ j ≤ P3.length ∧ ∃ nq, wz = WD.drewN nq) (fun vk _ => P3.length - (intOf vk).toNat)
          case atStart => exact ⟨0, rfl, Nat.zero_le _, 0, rfl⟩
          case round =>
            obtain ⟨j, rfl, hj, nq, rfl⟩ := hrel
            by_cases hlt3 : j < P3.length
            · obtain ⟨Y, hY⟩ : ∃ Y, P3[j]? = some Y := ⟨P3[j], by simp [hlt3]⟩
              have hY1 := hPl3.at j Y hY
              have hY2 := hPl3.each j Y hY
              obtain ⟨y1, y2⟩ := hY1
              rw [Nat.mul_comm] at y1 y2
              have y3 := hY2.ca
              have y4 := hY2.cb
              clear hY2 hY
              go_wp2_with fail
              have hj2 : (j : Int) < (P3.length : Int) := by omega
              have hS := And.intro y1 (And.intro y2 (And.intro y3 y4))
              go_region_held3 (fun w' => w'.cell? ⟨g, j * 2, none⟩ = some (.pointer (some Y.a)) ∧ w'.cell? ⟨g, j * 2 + 1, none⟩ = some (.pointer (some Y.b)) ∧ w'.cell? Y.a = some (.bool Y.f) ∧ w'.cell? Y.b = some (.bool Y.f))
                (exact hS) (first | (go_at_call 13; refine (wrong_any Y.a Y.f _ (by exact y3)).mono ?_; rintro e w5 ⟨rfl, rfl⟩))
              go_wp2_with fail
              go_roundw
              case rel => exact ⟨j + 1, by go_num, by omega, _, rfl⟩
              case measure => simp [intOf]; omega
            · go_wp2_with fail
              go_roundw
              case rel => exact ⟨P3, g, cap1, i + 1, rfl, by go_num, by omega, hP2, hP4, hPl3.later (below_drewN (Below.refl _ _) _)⟩
              case measure => simp [intOf]; omega
        · go_wp2_with fail
          go_ret
          exact ⟨rfl, hPl.below⟩
end Go.Proofs.Ytolccoghlclidaa
