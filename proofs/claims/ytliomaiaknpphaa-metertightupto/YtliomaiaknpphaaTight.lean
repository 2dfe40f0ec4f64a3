import Derived.Test.YtliomaiaknpphaaUnder
namespace Go.Proofs.Ytliomaiaknpphaa
open Go.RowKit

/-- what under answers by budgets, on a script of acts L -/
def Unders (v : Value) (L : List (Int × Int)) (w : World) : Prop :=
  ∀ S C : Int, 0 ≤ S → 0 ≤ C → S ≤ 9223372036854775807 → C ≤ 9223372036854775807 → ∀ W, Only [] w W →
    Calls Try.prog 24 #[.int .i64 S, .int .i64 C, v] W fun e w' => e = .returned (.tuple #[.int .i64 ((goes 0 ⟨S, C, 0, 0, 0, 0⟩ L).1 : Nat), .pointer (some ⟨W.heap.size, 0, none⟩)]) ∧ Blk w' W.heap.size (goes 0 ⟨S, C, 0, 0, 0, 0⟩ L).2.cells 52 ∧ Only [] W w'

/-- what under answers: so many, and a meter of such numbers -/
def Under (v : Value) (w : World) (S C : Int) (P : Int → M → Prop) : Prop :=
  ∀ W, Only [] w W → Calls Try.prog 24 #[.int .i64 S, .int .i64 C, v] W fun e w' => ∃ (j : Int) (x : M), e = .returned (.tuple #[.int .i64 j, .pointer (some ⟨W.heap.size, 0, none⟩)]) ∧ P j x ∧ Blk w' W.heap.size x.cells 52 ∧ Only [] W w'
structure Facts (v : Value) (len : Nat) (w : World) (d n p : Int) : Prop where
  d0 : 0 ≤ d
  d1 : d ≤ 4611686018427387904
  p0 : 0 ≤ p
  p1 : p ≤ 4611686018427387904
  first : Under v w 4611686018427387904 4611686018427387904 fun j x => j = len ∧ x.dn = d ∧ x.nw = n ∧ x.pk = p ∧ x.why = 0
  enough : ∀ S C, d ≤ S → p ≤ C → S ≤ 9223372036854775807 → C ≤ 9223372036854775807 → Under v w S C fun j x => j = len ∧ x.dn = d ∧ x.nw = n ∧ x.pk = p ∧ x.why = 0
  lessS : ∀ S C, 0 ≤ S → S < d → p ≤ C → C ≤ 9223372036854775807 → Under v w S C fun j x => 0 ≤ j ∧ j < len ∧ x.why = 20 ∧ x.dn = S ∧ x.pk ≤ p
  lessC : ∀ S C, 0 ≤ C → C < p → d ≤ S → S ≤ 9223372036854775807 → Under v w S C fun j x => 0 ≤ j ∧ j < len ∧ x.why = 21 ∧ x.pk = C ∧ x.nw = C ∧ x.dn ≤ d
theorem facts_of {v : Value} {L : List (Int × Int)} {w : World} (h : Unders v L w) (hq : ∀ a ∈ L, 0 ≤ a.2 ∧ a.2 < 1048576) (hl : L.length ≤ 1048576) : ∃ d n p, Facts v L.length w d n p := by
  obtain ⟨d, n, p, e⟩ := goes_all L hq 0 4611686018427387904 4611686018427387904 0 0 0 (Int.le_refl _) (Int.le_refl _) (by omega) (by omega)
  have ok := goes_ok L 0 ⟨4611686018427387904, 4611686018427387904, 0, 0, 0, 0⟩ ⟨by decide, by decide, by decide, by decide, by decide, by decide, by decide⟩
  obtain ⟨_, lk⟩ := lock L (fun a ha => (hq a ha).1) 0 _ _ _ _ _ _ _ _ (Int.le_refl _) (Int.le_refl _) e
  rw [e] at ok
  obtain ⟨o1, o2, o3, o4, o5, o6, o7⟩ := ok
  simp only at o1 o2 o3 o4 o5 o6 o7
  rw [Nat.zero_add] at e lk
  refine ⟨d, n, p, o1, o2, by omega, o6, ?_, ?_, ?_, ?_⟩
  · intro W hW
    refine (h _ _ (by decide) (by decide) (by decide) (by decide) W hW).mono ?_
    rintro e1 w' ⟨rfl, h1, h2⟩
    rw [e] at h1 ⊢
    exact ⟨_, _, rfl, ⟨rfl, rfl, rfl, rfl, rfl⟩, h1, h2⟩
  · intro S C hS hC hS1 hC1 W hW
    have g := (lk S C (by omega) (by omega)).1 hS hC
    refine (h S C (by omega) (by omega) hS1 hC1 W hW).mono ?_
    rintro e1 w' ⟨rfl, h1, h2⟩
    rw [g] at h1 ⊢
    exact ⟨_, _, rfl, ⟨rfl, rfl, rfl, rfl, rfl⟩, h1, h2⟩
  · intro S C hS0 hS hC hC1 W hW
    obtain ⟨j, x, g, g1, g2, g3, g4⟩ := (lk S C (by omega) (by omega)).2.1 hS hC
    refine (h S C (by omega) (by omega) (by omega) hC1 W hW).mono ?_
    rintro e1 w' ⟨rfl, h1, h2⟩
    rw [g] at h1 ⊢
    exact ⟨_, _, rfl, ⟨by simp, by simp only; omega, g2, g3, g4⟩, h1, h2⟩
  · intro S C hC0 hC hS hS1 W hW
    obtain ⟨j, x, g, g1, g2, g3, g4, g5⟩ := (lk S C (by omega) (by omega)).2.2 hC hS
    refine (h S C (by omega) (by omega) hS1 (by omega) W hW).mono ?_
    rintro e1 w' ⟨rfl, h1, h2⟩
    rw [g] at h1 ⊢
    exact ⟨_, _, rfl, ⟨by simp, by simp only; omega, g2, g3, g4, g5⟩, h1, h2⟩

/-- the tellers, by equations -/
theorem steps_eq {m : M} {b : Nat} {w : World} {z : Int} (h : Blk w b m.cells 52) (e : m.dn = z) : Calls Try.prog 20 #[.pointer (some ⟨b, 0, none⟩)] w fun e w' => e = .returned (.int .i64 z) ∧ w' = w := by subst e; exact steps_any m b w h
theorem held_eq {m : M} {b : Nat} {w : World} {z : Int} (h : Blk w b m.cells 52) (e : m.nw = z) : Calls Try.prog 21 #[.pointer (some ⟨b, 0, none⟩)] w fun e w' => e = .returned (.int .i64 z) ∧ w' = w := by subst e; exact held_any m b w h
theorem peak_eq {m : M} {b : Nat} {w : World} {z : Int} (h : Blk w b m.cells 52) (e : m.pk = z) : Calls Try.prog 22 #[.pointer (some ⟨b, 0, none⟩)] w fun e w' => e = .returned (.int .i64 z) ∧ w' = w := by subst e; exact peak_any m b w h
theorem refused_eq {m : M} {b : Nat} {w : World} {z : Int} (h : Blk w b m.cells 52) (e : m.why = z) : Calls Try.prog 23 #[.pointer (some ⟨b, 0, none⟩)] w fun e w' => e = .returned (.int .i64 z) ∧ w' = w := by subst e; exact refused_any m b w h

set_option maxHeartbeats 2000000 in
set_option maxRecDepth 100000 in
theorem tight_walk (a0 : Option Addr) (len cap : Nat) (more less d n p : Int) (w : World) (hF : Facts (.slice a0 len cap) len w d n p) :
    Calls Try.prog 5 #[.slice a0 len cap, .int .i64 more, .int .i64 less] w fun e w' => e = .returned (.bool true) ∧ Below w.heap.size w w' := by
  obtain ⟨d0, d1, p0, p1, h1, h2, h3, h4⟩ := hF
  have H1 := hidden h1
  have H2 := hidden h2
  have H3 := hidden h3
  have H4 := hidden h4
  clear h1 h2 h3 h4
  have HK := hidden fun W => among_any more 1099511627776 (by decide) (by decide) W
  obtain ⟨k0, k1⟩ := amg_bd more 1099511627776 (by decide)
  obtain ⟨k, hk⟩ : ∃ k, amg more 1099511627776 = k := ⟨_, rfl⟩
  rw [hk] at HK k0 k1
  clear hk
  go_enter Try.func5, Try.ntmps5
  go_wp2_with fail
  refine (shown_any _).mono ?_
  rintro e W0 ⟨rfl, ho0⟩
  go_wp2_with fail
  refine (H1.out _ ho0).mono ?_
  rintro e W1 ⟨j, m, rfl, ⟨rfl, m1, m2, m3, m4⟩, hm, ho1⟩
  have ho1 := ho0.trans ho1
  obtain ⟨g, hg⟩ : ∃ g, W0.heap.size = g := ⟨_, rfl⟩
  rw [hg] at hm ⊢
  clear hg ho0
  have M1 := hidden m1
  have M2 := hidden m2
  have M3 := hidden m3
  clear m1 m2 m3 m4 H1
  have hm := hidden hm
  go_wp2_with (first | (go_at_call 20; refine (steps_eq hm.out M1.out).mono ?_; rintro e w1 ⟨rfl, rfl⟩) | (go_at_call 22; refine (peak_eq hm.out M3.out).mono ?_; rintro e w1 ⟨rfl, rfl⟩) | (go_at_call 10; refine (HK.out _).mono ?_; rintro e w1 ⟨rfl, rfl⟩))
  have hB := (Blk.new w1 #[.int .i64 d, .int .i64 p, .int .i64 (d + k), .int .i64 p, .int .i64 d, .int .i64 (p + k)] 46 rfl)
  have hm2 := hm.out.alloc (.cells #[.int .i64 d, .int .i64 p, .int .i64 (d + k), .int .i64 p, .int .i64 d, .int .i64 (p + k)] 46)
  have ho2 := ho1.alloc (.cells #[.int .i64 d, .int .i64 p, .int .i64 (d + k), .int .i64 p, .int .i64 d, .int .i64 (p + k)] 46)
  obtain ⟨WB, hWB⟩ : ∃ W, w1.alloc (.cells #[.int .i64 d, .int .i64 p, .int .i64 (d + k), .int .i64 p, .int .i64 d, .int .i64 (p + k)] 46) = W := ⟨_, rfl⟩
  obtain ⟨bs, hbs⟩ : ∃ b, w1.heap.size = b := ⟨_, rfl⟩
  rw [hWB, hbs] at hB
  rw [hWB] at hm2 ho2
  rw [hWB, hbs]
  clear hWB hbs ho1 hm HK
  have hB := hidden hB
  have hm := hidden hm2
  have ho := hidden ho2
  clear hm2 ho2
  go_loopw [58] (fun vi wr => ∃ i : Nat, vi = .int .i64 i ∧ i ≤ 3 ∧ Only [] WB wr) (fun vi _ => 3 - (intOf vi).toNat)
  case atStart => exact ⟨0, rfl, by omega, Only.refl _ _⟩
  case round =>
    obtain ⟨i, rfl, hi, hor⟩ := hrel
    have hbs := hor.blk hB.out (by simp)
    have hmr := hidden (hor.blk hm.out (by simp))
    have how := hidden (ho.out.trans hor)
    have hor := hidden hor
    clear hB hm ho
    rcases (show i = 0 ∨ i = 1 ∨ i = 2 ∨ i = 3 by omega) with rfl | rfl | rfl | rfl
    · have c0 : wr.cell? ⟨bs, 0, none⟩ = some (.int .i64 (d)) := hbs.cell 0
      have c1 : wr.cell? ⟨bs, 1, none⟩ = some (.int .i64 (p)) := hbs.cell 1
      have HU := hidden (H2.out (d) (p) (by omega) (by omega) (by omega) (by omega))
      clear hbs
      have hsz : (wr.alloc (.cells #[.int .i64 (d), .int .i64 (p)] 46)).heap.size = wr.heap.size + 1 := by simp
      go_wp2_with fail
      refine (HU.out _ (how.out.alloc _)).mono ?_
      rintro e W2 ⟨j, x, rfl, ⟨rfl, x1, x2, x3, x4⟩, hx, ho2⟩
      rw [hsz] at hx
      have X1 := hidden x1
      have X2 := hidden x2
      have X3 := hidden x3
      have X4 := hidden x4
      have hx := hidden hx
      have hmx := hidden (ho2.blk (hmr.out.alloc _) (by simp))
      have ho3 := hidden ((hor.out.alloc _).trans ho2)
      clear x1 x2 x3 x4 ho2 hmr hor how HU hsz
      go_wp2_with (first | (go_at_call 20; refine (steps_eq hx.out X1.out).mono ?_; rintro e w1 ⟨rfl, rfl⟩) | (go_at_call 22; refine (peak_eq hx.out X3.out).mono ?_; rintro e w1 ⟨rfl, rfl⟩) | (go_at_call 21; first | (refine (held_eq hx.out X2.out).mono ?_; rintro e w1 ⟨rfl, rfl⟩) | (refine (held_eq hmx.out M2.out).mono ?_; rintro e w1 ⟨rfl, rfl⟩)) | (go_at_call 23; refine (refused_eq hx.out X4.out).mono ?_; rintro e w1 ⟨rfl, rfl⟩))
      go_roundw
      case rel => exact ⟨1, rfl, by omega, ho3.out⟩
      case measure => simp [intOf]
    · have c0 : wr.cell? ⟨bs, 2, none⟩ = some (.int .i64 (d + k)) := hbs.cell 2
      have c1 : wr.cell? ⟨bs, 3, none⟩ = some (.int .i64 (p)) := hbs.cell 3
      have HU := hidden (H2.out (d + k) (p) (by omega) (by omega) (by omega) (by omega))
      clear hbs
      have hsz : (wr.alloc (.cells #[.int .i64 (d + k), .int .i64 (p)] 46)).heap.size = wr.heap.size + 1 := by simp
      go_wp2_with fail
      refine (HU.out _ (how.out.alloc _)).mono ?_
      rintro e W2 ⟨j, x, rfl, ⟨rfl, x1, x2, x3, x4⟩, hx, ho2⟩
      rw [hsz] at hx
      have X1 := hidden x1
      have X2 := hidden x2
      have X3 := hidden x3
      have X4 := hidden x4
      have hx := hidden hx
      have hmx := hidden (ho2.blk (hmr.out.alloc _) (by simp))
      have ho3 := hidden ((hor.out.alloc _).trans ho2)
      clear x1 x2 x3 x4 ho2 hmr hor how HU hsz
      go_wp2_with (first | (go_at_call 20; refine (steps_eq hx.out X1.out).mono ?_; rintro e w1 ⟨rfl, rfl⟩) | (go_at_call 22; refine (peak_eq hx.out X3.out).mono ?_; rintro e w1 ⟨rfl, rfl⟩) | (go_at_call 21; first | (refine (held_eq hx.out X2.out).mono ?_; rintro e w1 ⟨rfl, rfl⟩) | (refine (held_eq hmx.out M2.out).mono ?_; rintro e w1 ⟨rfl, rfl⟩)) | (go_at_call 23; refine (refused_eq hx.out X4.out).mono ?_; rintro e w1 ⟨rfl, rfl⟩))
      go_roundw
      case rel => exact ⟨2, rfl, by omega, ho3.out⟩
      case measure => simp [intOf]
    · have c0 : wr.cell? ⟨bs, 4, none⟩ = some (.int .i64 (d)) := hbs.cell 4
      have c1 : wr.cell? ⟨bs, 5, none⟩ = some (.int .i64 (p + k)) := hbs.cell 5
      have HU := hidden (H2.out (d) (p + k) (by omega) (by omega) (by omega) (by omega))
      clear hbs
      have hsz : (wr.alloc (.cells #[.int .i64 (d), .int .i64 (p + k)] 46)).heap.size = wr.heap.size + 1 := by simp
      go_wp2_with fail
      refine (HU.out _ (how.out.alloc _)).mono ?_
      rintro e W2 ⟨j, x, rfl, ⟨rfl, x1, x2, x3, x4⟩, hx, ho2⟩
      rw [hsz] at hx
      have X1 := hidden x1
      have X2 := hidden x2
      have X3 := hidden x3
      have X4 := hidden x4
      have hx := hidden hx
      have hmx := hidden (ho2.blk (hmr.out.alloc _) (by simp))
      have ho3 := hidden ((hor.out.alloc _).trans ho2)
      clear x1 x2 x3 x4 ho2 hmr hor how HU hsz
      go_wp2_with (first | (go_at_call 20; refine (steps_eq hx.out X1.out).mono ?_; rintro e w1 ⟨rfl, rfl⟩) | (go_at_call 22; refine (peak_eq hx.out X3.out).mono ?_; rintro e w1 ⟨rfl, rfl⟩) | (go_at_call 21; first | (refine (held_eq hx.out X2.out).mono ?_; rintro e w1 ⟨rfl, rfl⟩) | (refine (held_eq hmx.out M2.out).mono ?_; rintro e w1 ⟨rfl, rfl⟩)) | (go_at_call 23; refine (refused_eq hx.out X4.out).mono ?_; rintro e w1 ⟨rfl, rfl⟩))
      go_roundw
      case rel => exact ⟨3, rfl, by omega, ho3.out⟩
      case measure => simp [intOf]
    · clear hbs hor hmr
      rcases (show (0 < d ∧ 0 < p) ∨ (0 < d ∧ ¬ 0 < p) ∨ (¬ 0 < d ∧ 0 < p) ∨ (¬ 0 < d ∧ ¬ 0 < p) by omega) with ⟨hd, hp⟩ | ⟨hd, hp⟩ | ⟨hd, hp⟩ | ⟨hd, hp⟩
      · obtain ⟨l0, l1⟩ := amg_bd less p hp
        have HL2 := hidden fun W => among_any less p hp (by omega) W
        obtain ⟨c0, hc0⟩ : ∃ a, amg less p = a := ⟨_, rfl⟩
        rw [hc0] at HL2 l0 l1
        clear hc0
        obtain ⟨c, hc⟩ : ∃ b, p - 1 - c0 = b := ⟨_, rfl⟩
        have cb : 0 ≤ c ∧ c < p := by omega
        obtain ⟨l0, l1⟩ := amg_bd less d hd
        have HL1 := hidden fun W => among_any less d hd (by omega) W
        obtain ⟨b0, hb0⟩ : ∃ a, amg less d = a := ⟨_, rfl⟩
        rw [hb0] at HL1 l0 l1
        clear hb0
        obtain ⟨b, hb⟩ : ∃ b, d - 1 - b0 = b := ⟨_, rfl⟩
        have bb : 0 ≤ b ∧ b < d := by omega
        go_wp2_with (go_at_call 10; refine (HL1.out _).mono ?_; rintro e1 w1 ⟨rfl, rfl⟩)
        clear HL1 hb l0 l1
        refine (H3.out b (p + k) (by omega) (by omega) (by omega) (by omega) _ how.out).mono ?_
        rintro e W2 ⟨j, x, rfl, ⟨j0, j1, x4, x1, x3⟩, hx, ho2⟩
        have X1 := hidden x1
        have X4 := hidden x4
        obtain ⟨z3, hz3⟩ : ∃ z, x.pk = z := ⟨_, rfl⟩
        rw [hz3] at x3
        have X3 := hidden hz3
        have how := hidden (how.out.trans ho2)
        have hx := hidden hx
        clear x1 x4 ho2 H3 hz3
        go_wp2_with (first | (go_at_call 20; refine (steps_eq hx.out X1.out).mono ?_; rintro e w1 ⟨rfl, rfl⟩) | (go_at_call 22; refine (peak_eq hx.out X3.out).mono ?_; rintro e w1 ⟨rfl, rfl⟩) | (go_at_call 21; refine (held_eq hx.out X2.out).mono ?_; rintro e w1 ⟨rfl, rfl⟩) | (go_at_call 23; refine (refused_eq hx.out X4.out).mono ?_; rintro e w1 ⟨rfl, rfl⟩) | (go_at_call 10; refine (HL2.out _).mono ?_; rintro e1 w1 ⟨rfl, rfl⟩))
        refine (H4.out (d + k) c (by omega) (by omega) (by omega) (by omega) _ how.out).mono ?_
        rintro e W3 ⟨j2, y, rfl, ⟨g0, g1, y4, y3, y2, y1⟩, hy, ho3⟩
        have Y2 := hidden y2
        have Y3 := hidden y3
        have Y4 := hidden y4
        obtain ⟨z1, hz1⟩ : ∃ z, y.dn = z := ⟨_, rfl⟩
        rw [hz1] at y1
        have Y1 := hidden hz1
        have how := hidden (how.out.trans ho3)
        have hy := hidden hy
        clear y2 y3 y4 ho3 H4 hz1 HL2 hc
        go_wp2_with (first | (go_at_call 20; refine (steps_eq hy.out Y1.out).mono ?_; rintro e w1 ⟨rfl, rfl⟩) | (go_at_call 22; refine (peak_eq hy.out Y3.out).mono ?_; rintro e w1 ⟨rfl, rfl⟩) | (go_at_call 21; refine (held_eq hy.out Y2.out).mono ?_; rintro e w1 ⟨rfl, rfl⟩) | (go_at_call 23; refine (refused_eq hy.out Y4.out).mono ?_; rintro e w1 ⟨rfl, rfl⟩) | (go_at_call 10; refine (HL2.out _).mono ?_; rintro e1 w1 ⟨rfl, rfl⟩))
        go_ret
        exact ⟨rfl, how.out.below⟩
      · obtain ⟨l0, l1⟩ := amg_bd less d hd
        have HL1 := hidden fun W => among_any less d hd (by omega) W
        obtain ⟨b0, hb0⟩ : ∃ a, amg less d = a := ⟨_, rfl⟩
        rw [hb0] at HL1 l0 l1
        clear hb0
        obtain ⟨b, hb⟩ : ∃ b, d - 1 - b0 = b := ⟨_, rfl⟩
        have bb : 0 ≤ b ∧ b < d := by omega
        go_wp2_with (go_at_call 10; refine (HL1.out _).mono ?_; rintro e1 w1 ⟨rfl, rfl⟩)
        clear HL1 hb l0 l1
        refine (H3.out b (p + k) (by omega) (by omega) (by omega) (by omega) _ how.out).mono ?_
        rintro e W2 ⟨j, x, rfl, ⟨j0, j1, x4, x1, x3⟩, hx, ho2⟩
        have X1 := hidden x1
        have X4 := hidden x4
        obtain ⟨z3, hz3⟩ : ∃ z, x.pk = z := ⟨_, rfl⟩
        rw [hz3] at x3
        have X3 := hidden hz3
        have how := hidden (how.out.trans ho2)
        have hx := hidden hx
        clear x1 x4 ho2 H3 hz3
        go_wp2_with (first | (go_at_call 20; refine (steps_eq hx.out X1.out).mono ?_; rintro e w1 ⟨rfl, rfl⟩) | (go_at_call 22; refine (peak_eq hx.out X3.out).mono ?_; rintro e w1 ⟨rfl, rfl⟩) | (go_at_call 21; refine (held_eq hx.out X2.out).mono ?_; rintro e w1 ⟨rfl, rfl⟩) | (go_at_call 23; refine (refused_eq hx.out X4.out).mono ?_; rintro e w1 ⟨rfl, rfl⟩) | (go_at_call 10; refine (HL2.out _).mono ?_; rintro e1 w1 ⟨rfl, rfl⟩))
        go_ret
        exact ⟨rfl, how.out.below⟩
      · obtain ⟨l0, l1⟩ := amg_bd less p hp
        have HL2 := hidden fun W => among_any less p hp (by omega) W
        obtain ⟨c0, hc0⟩ : ∃ a, amg less p = a := ⟨_, rfl⟩
        rw [hc0] at HL2 l0 l1
        clear hc0
        obtain ⟨c, hc⟩ : ∃ b, p - 1 - c0 = b := ⟨_, rfl⟩
        have cb : 0 ≤ c ∧ c < p := by omega
        go_wp2_with (first | (go_at_call 20; refine (steps_eq hx.out X1.out).mono ?_; rintro e w1 ⟨rfl, rfl⟩) | (go_at_call 22; refine (peak_eq hx.out X3.out).mono ?_; rintro e w1 ⟨rfl, rfl⟩) | (go_at_call 21; refine (held_eq hx.out X2.out).mono ?_; rintro e w1 ⟨rfl, rfl⟩) | (go_at_call 23; refine (refused_eq hx.out X4.out).mono ?_; rintro e w1 ⟨rfl, rfl⟩) | (go_at_call 10; refine (HL2.out _).mono ?_; rintro e1 w1 ⟨rfl, rfl⟩))
        refine (H4.out (d + k) c (by omega) (by omega) (by omega) (by omega) _ how.out).mono ?_
        rintro e W3 ⟨j2, y, rfl, ⟨g0, g1, y4, y3, y2, y1⟩, hy, ho3⟩
        have Y2 := hidden y2
        have Y3 := hidden y3
        have Y4 := hidden y4
        obtain ⟨z1, hz1⟩ : ∃ z, y.dn = z := ⟨_, rfl⟩
        rw [hz1] at y1
        have Y1 := hidden hz1
        have how := hidden (how.out.trans ho3)
        have hy := hidden hy
        clear y2 y3 y4 ho3 H4 hz1 HL2 hc
        go_wp2_with (first | (go_at_call 20; refine (steps_eq hy.out Y1.out).mono ?_; rintro e w1 ⟨rfl, rfl⟩) | (go_at_call 22; refine (peak_eq hy.out Y3.out).mono ?_; rintro e w1 ⟨rfl, rfl⟩) | (go_at_call 21; refine (held_eq hy.out Y2.out).mono ?_; rintro e w1 ⟨rfl, rfl⟩) | (go_at_call 23; refine (refused_eq hy.out Y4.out).mono ?_; rintro e w1 ⟨rfl, rfl⟩) | (go_at_call 10; refine (HL2.out _).mono ?_; rintro e1 w1 ⟨rfl, rfl⟩))
        go_ret
        exact ⟨rfl, how.out.below⟩
      · go_wp2_with (first | (go_at_call 20; refine (steps_eq hx.out X1.out).mono ?_; rintro e w1 ⟨rfl, rfl⟩) | (go_at_call 22; refine (peak_eq hx.out X3.out).mono ?_; rintro e w1 ⟨rfl, rfl⟩) | (go_at_call 21; refine (held_eq hx.out X2.out).mono ?_; rintro e w1 ⟨rfl, rfl⟩) | (go_at_call 23; refine (refused_eq hx.out X4.out).mono ?_; rintro e w1 ⟨rfl, rfl⟩) | (go_at_call 10; refine (HL2.out _).mono ?_; rintro e1 w1 ⟨rfl, rfl⟩))
        go_ret
        exact ⟨rfl, how.out.below⟩
end Go.Proofs.Ytliomaiaknpphaa
