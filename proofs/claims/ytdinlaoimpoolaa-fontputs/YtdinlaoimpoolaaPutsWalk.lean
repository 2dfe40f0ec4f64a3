/- FontPuts' walk. -/
import Derived.Test.YtdinlaoimpoolaaCopied
import Derived.Test.YtdinlaoimpoolaaShown
import Derived.Test.YtdinlaoimpoolaaSame
namespace Go.Proofs.Ytdinlaoimpoolaa
open Go.RowKit

/-- a block's head reads as a list -/
theorem sl_of_blk {W : World} {b n : Nat} {xs ys : List Value} {t : TypeId} (h : Blk W b (xs ++ ys) t) : Sl W (some ⟨b, 0, none⟩) n xs := fun _ => ⟨b, 0, rfl, h.lt, fun j u hj => by
  rw [Nat.zero_add]
  refine (h.cell j).trans ?_
  rw [List.getElem?_append_left (List.getElem?_eq_some_iff.1 hj).1]
  exact hj⟩
set_option maxRecDepth 100000 in
set_option maxHeartbeats 8000000 in
theorem puts_walk (em : Int) (gs : List Gl) (ps : List Pr) (ag ap : Option Addr) (ca cb : Nat) (w : World) (hg : gs.length ≤ 4398046511104) (hp : ps.length ≤ 4398046511104) (sg : Sl w ag gs.length (gs.flatMap cg)) (sp : Sl w ap ps.length (ps.flatMap cp)) :
    Calls Try.prog 3 #[.agg #[.int .i64 em, .slice ag gs.length ca, .slice ap ps.length cb]] w fun e w' => e = .returned (.bool true) ∧ Below w.heap.size w w' := by
  have HSG := hid (fun X (h : Below w.heap.size w X) => sg.below h)
  have HSP := hid (fun X (h : Below w.heap.size w X) => sp.below h)
  have HCO := hid (fun X (h : Below w.heap.size w X) => copied_any em gs ps ag ap ca cb X hg hp (HSG.out X h) (HSP.out X h))
  have HREF := hid (fun X (h : Below w.heap.size w X) => refput_any em gs ps ag ap ca cb X (by omega) (by omega) (HSG.out X h) (HSP.out X h))
  have HLB := hid (And.intro hg hp)
  have HFB := hid (Blk.new w #[.int .i64 em, .slice ag gs.length ca, .slice ap ps.length cb] 25 rfl)
  have HB0 : Hid (Below w.heap.size w (w.alloc (.cells #[.int .i64 em, .slice ag gs.length ca, .slice ap ps.length cb] 25))) := hid ((Below.refl _ w).alloc (Nat.le_refl _) _)
  obtain ⟨h, hh⟩ : ∃ h, w.heap.size = h := ⟨_, rfl⟩
  clear sg sp hg hp
  go_enter Try.func3, Try.ntmps3
  go_wp2_with fail
  obtain ⟨W0, hW0⟩ : ∃ W0, w.alloc (.cells #[.int .i64 em, .slice ag gs.length ca, .slice ap ps.length cb] 25) = W0 := ⟨_, rfl⟩
  rw [hW0] at HFB HB0 ⊢
  rw [hh] at HFB
  clear hW0
  refine (shown_any W0).mono ?_
  rintro e w1 ⟨rfl, hb1⟩
  have HB1 := hid (HB0.out.trans (hb1.mono HB0.out.size))
  have HF1 := hid (HFB.out.below hb1)
  clear hb1 HFB HB0
  have c0 : w1.cell? ⟨h, 0, none⟩ = some (.int .i64 em) := HF1.out.cell 0
  have c1 : w1.cell? ⟨h, 1, none⟩ = some (.slice ag gs.length ca) := HF1.out.cell 1
  have c2 : w1.cell? ⟨h, 2, none⟩ = some (.slice ap ps.length cb) := HF1.out.cell 2
  go_wp2_with fail
  refine (HCO.out w1 HB1.out).mono ?_
  rintro e w2 ⟨g, q, rfl, hgk, hqk, hb2⟩
  have HB2 := hid (HB1.out.trans (hb2.mono HB1.out.size))
  have HF2 := hid (HF1.out.below hb2)
  have HG2 := hid hgk
  have HQ2 := hid hqk
  clear hb2 HF1 HB1 c0 c1 c2 hgk hqk
  go_wp2_with fail
  have HO3 : Hid (Blk (w2.alloc (.cells #[.int .i64 em, .slice (some ⟨g, 0, none⟩) gs.length (gs.length + 1), .slice (some ⟨q, 0, none⟩) ps.length (ps.length + 1)] 25)) w2.heap.size [.int .i64 em, .slice (some ⟨g, 0, none⟩) gs.length (gs.length + 1), .slice (some ⟨q, 0, none⟩) ps.length (ps.length + 1)] 25) := hid (Blk.new w2 _ 25 rfl)
  have HB3 : Hid (Below w.heap.size w (w2.alloc (.cells #[.int .i64 em, .slice (some ⟨g, 0, none⟩) gs.length (gs.length + 1), .slice (some ⟨q, 0, none⟩) ps.length (ps.length + 1)] 25))) := hid (HB2.out.alloc HB2.out.size _)
  have HF3 := hid (HF2.out.alloc (.cells #[.int .i64 em, .slice (some ⟨g, 0, none⟩) gs.length (gs.length + 1), .slice (some ⟨q, 0, none⟩) ps.length (ps.length + 1)] 25))
  have HG3 := hid (HG2.out.alloc (.cells #[.int .i64 em, .slice (some ⟨g, 0, none⟩) gs.length (gs.length + 1), .slice (some ⟨q, 0, none⟩) ps.length (ps.length + 1)] 25))
  have HQ3 := hid (HQ2.out.alloc (.cells #[.int .i64 em, .slice (some ⟨g, 0, none⟩) gs.length (gs.length + 1), .slice (some ⟨q, 0, none⟩) ps.length (ps.length + 1)] 25))
  obtain ⟨W3, hW3⟩ : ∃ W3, w2.alloc (.cells #[.int .i64 em, .slice (some ⟨g, 0, none⟩) gs.length (gs.length + 1), .slice (some ⟨q, 0, none⟩) ps.length (ps.length + 1)] 25) = W3 := ⟨_, rfl⟩
  obtain ⟨d, hd⟩ : ∃ d, w2.heap.size = d := ⟨_, rfl⟩
  rw [hW3] at HO3 HB3 HF3 HG3 HQ3 ⊢
  rw [hd] at HO3 ⊢
  clear hW3 hd HB2 HF2 HG2 HQ2
  refine (put_any em gs ps (some ⟨g, 0, none⟩) (some ⟨q, 0, none⟩) (gs.length + 1) (ps.length + 1) W3 (by have := HLB.out.1; omega) (by have := HLB.out.2; omega) (sl_of_blk HG3.out) (sl_of_blk HQ3.out)).mono ?_
  rintro e W4 ⟨rfl, hb4⟩
  have HB4 := hid (HB3.out.trans (hb4.mono HB3.out.size))
  have HO4 := hid (HO3.out.below hb4)
  have HF4 := hid (HF3.out.below hb4)
  have HG4 := hid (HG3.out.below hb4)
  have HQ4 := hid (HQ3.out.below hb4)
  obtain ⟨S, hS⟩ : ∃ S, (if verd em gs ps = 0 then strN (fontB em gs ps) else ⟨#[]⟩) = S := ⟨_, rfl⟩
  obtain ⟨V, hV⟩ : ∃ V, verd em gs ps = V := ⟨_, rfl⟩
  have HREF2 : Hid (∀ X, Below w.heap.size w X → Calls Try.prog 11 #[.agg #[.int .i64 em, .slice ag gs.length ca, .slice ap ps.length cb]] X fun e w' => e = .returned (.tuple #[.string S, .int .i64 V]) ∧ Below X.heap.size X w') := hid fun X hX => by
    have := HREF.out X hX
    unfold Puts at this
    rw [hS, hV] at this
    exact this
  rw [hS, hV]
  clear hS hV hb4 HB3 HO3 HF3 HG3 HQ3 HREF
  have c0 : W4.cell? ⟨h, 0, none⟩ = some (.int .i64 em) := HF4.out.cell 0
  have c1 : W4.cell? ⟨h, 1, none⟩ = some (.slice ag gs.length ca) := HF4.out.cell 1
  have c2 : W4.cell? ⟨h, 2, none⟩ = some (.slice ap ps.length cb) := HF4.out.cell 2
  go_wp2_with fail
  refine (HREF2.out W4 HB4.out).mono ?_
  rintro e W5 ⟨rfl, hb5⟩
  have HB5 := hid (HB4.out.trans (hb5.mono HB4.out.size))
  have HO5 := hid (HO4.out.below hb5)
  have HF5 := hid (HF4.out.below hb5)
  have HG5 := hid (HG4.out.below hb5)
  have HQ5 := hid (HQ4.out.below hb5)
  clear hb5 c0 c1 c2 HB4 HO4 HF4 HG4 HQ4
  have c0 : W5.cell? ⟨h, 0, none⟩ = some (.int .i64 em) := HF5.out.cell 0
  have c1 : W5.cell? ⟨h, 1, none⟩ = some (.slice ag gs.length ca) := HF5.out.cell 1
  have c2 : W5.cell? ⟨h, 2, none⟩ = some (.slice ap ps.length cb) := HF5.out.cell 2
  have d0 : W5.cell? ⟨d, 0, none⟩ = some (.int .i64 em) := HO5.out.cell 0
  have d1 : W5.cell? ⟨d, 1, none⟩ = some (.slice (some ⟨g, 0, none⟩) gs.length (gs.length + 1)) := HO5.out.cell 1
  have d2 : W5.cell? ⟨d, 2, none⟩ = some (.slice (some ⟨q, 0, none⟩) ps.length (ps.length + 1)) := HO5.out.cell 2
  have HSM := hid (same_true em gs ps (some ⟨g, 0, none⟩) ag (some ⟨q, 0, none⟩) ap (gs.length + 1) ca (ps.length + 1) cb W5 (by have := HLB.out.1; omega) (by have := HLB.out.2; omega) (sl_of_blk HG5.out) (sl_of_blk HQ5.out) (HSG.out W5 HB5.out) (HSP.out W5 HB5.out))
  go_wp2_with fail
  refine HSM.out.mono ?_
  rintro e W6 ⟨rfl, hb6⟩
  have HB6 := hid (HB5.out.trans (hb6.mono HB5.out.size))
  have HO6 := hid (HO5.out.below hb6)
  have HF6 := hid (HF5.out.below hb6)
  have HG6 := hid (HG5.out.below hb6)
  have HQ6 := hid (HQ5.out.below hb6)
  clear hb6 c0 c1 c2 d0 d1 d2 HB5 HO5 HF5 HG5 HQ5 HSM
  have l1 : (gs.length : Int) ≤ 4398046511104 := by have := HLB.out.1; omega
  have l2 : (ps.length : Int) ≤ 4398046511104 := by have := HLB.out.2; omega
  obtain ⟨n, hn⟩ : ∃ n, gs.length = n := ⟨_, rfl⟩
  obtain ⟨m, hm⟩ : ∃ m, ps.length = m := ⟨_, rfl⟩
  have HN := hid hn
  have HM := hid hm
  rw [hn] at l1 HO6 HF6 ⊢
  rw [hm] at l2 HO6 HF6 ⊢
  clear hn hm
  go_wp2_with fail
  have c1 : W6.drew.cell? ⟨h, 1, none⟩ = some (.slice ag n ca) := HF6.out.cell 1
  have c2 : W6.drew.cell? ⟨h, 2, none⟩ = some (.slice ap m cb) := HF6.out.cell 2
  have d1 : W6.drew.cell? ⟨d, 1, none⟩ = some (.slice (some ⟨g, 0, none⟩) n (n + 1)) := HO6.out.cell 1
  have d2 : W6.drew.cell? ⟨d, 2, none⟩ = some (.slice (some ⟨q, 0, none⟩) m (m + 1)) := HO6.out.cell 2
  have g1 : W6.drew.cell? ⟨g, n * 4, none⟩ = some (.int .i64 (-77)) := (HG6.out.cell (n * 4)).trans (by
    rw [List.getElem?_append_right (by rw [flat_len cg_len, HN.out]; exact Nat.le_refl _), flat_len cg_len, HN.out, Nat.sub_self]; rfl)
  have q1 : W6.drew.cell? ⟨q, m * 5, none⟩ = some (.int .i64 (-77)) := (HQ6.out.cell (m * 5)).trans (by
    rw [List.getElem?_append_right (by rw [flat_len cp_len, HM.out]; exact Nat.le_refl _), flat_len cp_len, HM.out, Nat.sub_self]; rfl)
  have hw1 : IntKind.i64.wrap ((n : Int) + 1) = (n : Int) + 1 := by
    simp only [IntKind.wrap, IntKind.bits, IntKind.signed]
    simp
    omega
  have hw2 : IntKind.i64.wrap ((m : Int) + 1) = (m : Int) + 1 := by
    simp only [IntKind.wrap, IntKind.bits, IntKind.signed]
    simp
    omega
  have m7 : (0 : Int) ≤ (n : Int) := by omega
  have m8 : (0 : Int) ≤ (m : Int) := by omega
  have m9 : (n : Int) < (n : Int) + 1 := by omega
  have m10 : (m : Int) < (m : Int) + 1 := by omega
  have m5 : (0 : Int) ≤ (n : Int) + 1 := by omega
  have m6 : (0 : Int) ≤ (m : Int) + 1 := by omega
  go_region_held3 (fun X => X.cell? ⟨h, 1, none⟩ = some (.slice ag n ca) ∧ X.cell? ⟨h, 2, none⟩ = some (.slice ap m cb) ∧ X.cell? ⟨d, 1, none⟩ = some (.slice (some ⟨g, 0, none⟩) n (n + 1)) ∧ X.cell? ⟨d, 2, none⟩ = some (.slice (some ⟨q, 0, none⟩) m (m + 1)) ∧ X.cell? ⟨g, n * 4, none⟩ = some (.int .i64 (-77)) ∧ X.cell? ⟨q, m * 5, none⟩ = some (.int .i64 (-77))) (exact ⟨c1, c2, d1, d2, g1, q1⟩) (fail)
  go_wp2_with fail
  go_ret
  exact ⟨by simp, HB6.out.drew⟩
end Go.Proofs.Ytdinlaoimpoolaa
