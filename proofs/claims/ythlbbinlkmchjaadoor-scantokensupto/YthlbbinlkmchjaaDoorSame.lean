/- same: two lists of tokens that are alike. -/
import Derived.Test.YthlbbinlkmchjaaDoorEqs
namespace Go.Proofs.YthlbbinlkmchjaaDoor
open Go.RowKit

/-- a list of tokens reads so -/
structure TR (w : World) (tv : Value) (xs : List (Tk × Tm)) : Prop where
  sl : ∃ ad cap, tv = .slice ad xs.length cap ∧ Sl w ad xs.length (xs.flatMap tmc)
  rel : ∀ x ∈ xs, bl x.2.nm = x.1.nm ∧ bl x.2.vl = x.1.vl ∧ ∃ ad cap, x.2.cv = .slice ad x.1.ch.length cap ∧ Sl w ad x.1.ch.length (x.1.ch.flatMap chc)
  short : xs.length ≤ 4294967296 ∧ ∀ x ∈ xs, x.1.ch.length ≤ 4294967296
theorem TR.only {w w' : World} {tv : Value} {xs : List (Tk × Tm)} (h : TR w tv xs) (k : Only [] w w') : TR w' tv xs := by
  obtain ⟨ad, cap, e, hs⟩ := h.sl
  exact ⟨⟨ad, cap, e, hs.only k⟩, fun x hx => by
    obtain ⟨h1, h2, ad, cap, e, hs⟩ := h.rel x hx
    exact ⟨h1, h2, ad, cap, e, hs.only k⟩, h.short⟩
theorem TL.reads {w : World} {B : Nat} {tv : Value} {xs : List (Tk × Tm)} (h : TL w B tv xs) (hl : xs.length ≤ 4294967296 ∧ ∀ x ∈ xs, x.1.ch.length ≤ 4294967296) : TR w tv xs := by
  obtain ⟨ad, cap, e, hs, _⟩ := row_reads h.row
  exact ⟨⟨ad, cap, e, hs⟩, fun x hx => by
    obtain ⟨ad, cap, e, hs, _⟩ := row_reads (h.rel x hx).ch
    exact ⟨(h.rel x hx).nm, (h.rel x hx).vl, ad, cap, e, hs⟩, hl⟩
/-- a token's seven cells -/
theorem Sl.tok {W : World} {ad : Option Addr} {xs : List (Tk × Tm)} (h : Sl W ad xs.length (xs.flatMap tmc)) {i : Nat} {x : Tk × Tm} (hi : xs[i]? = some x) :
    ∃ b off, ad = some ⟨b, off, none⟩ ∧ b < W.heap.size ∧ W.cell? ⟨b, off + i * 7, none⟩ = some (.int .i64 x.1.kd) ∧ W.cell? ⟨b, off + i * 7 + 1, none⟩ = some (.int .i64 x.1.at_) ∧ W.cell? ⟨b, off + i * 7 + 2, none⟩ = some (.int .i64 x.1.en) ∧
      W.cell? ⟨b, off + i * 7 + 3, none⟩ = some (.string x.2.nm) ∧ W.cell? ⟨b, off + i * 7 + 4, none⟩ = some (.string x.2.vl) ∧ W.cell? ⟨b, off + i * 7 + 5, none⟩ = some x.2.cv ∧ W.cell? ⟨b, off + i * 7 + 6, none⟩ = some (.bool x.1.em) := by
  have h0 : xs.length ≠ 0 := fun e => by
    rw [List.eq_nil_of_length_eq_zero e] at hi; simp at hi
  obtain ⟨b, off, e, ha⟩ := h h0
  have f := fun c (hc : c < 7) => flat_get (enc := tmc) tmc_len hc hi
  exact ⟨b, off, e, ha.1, ha.2 (i * 7) _ (f 0 (by decide)), ha.2 (i * 7 + 1) _ (f 1 (by decide)), ha.2 (i * 7 + 2) _ (f 2 (by decide)), ha.2 (i * 7 + 3) _ (f 3 (by decide)), ha.2 (i * 7 + 4) _ (f 4 (by decide)), ha.2 (i * 7 + 5) _ (f 5 (by decide)), ha.2 (i * 7 + 6) _ (f 6 (by decide))⟩

set_option maxRecDepth 100000 in
set_option maxHeartbeats 8000000 in
theorem same_true (xs ys : List (Tk × Tm)) (va vb : Value) (w : World) (ha : TR w va xs) (hb : TR w vb ys) (he : xs.map (·.1) = ys.map (·.1)) :
    Calls Tryd.prog 17 #[va, vb] w fun e w' => e = .returned (.bool true) ∧ Only [] w w' := by
  have HA := hid ha
  have HB := hid hb
  have HE := hid he
  have hlen : xs.length = ys.length := by have := congrArg List.length he; simpa using this
  obtain ⟨ad1, c1, rfl, hs1⟩ := ha.sl
  obtain ⟨ad2, c2, rfl, hs2⟩ := hb.sl
  have HS1 := hid hs1
  have HS2 := hid hs2
  obtain ⟨n, hn⟩ : ∃ n, xs.length = n := ⟨_, rfl⟩
  have hbd := ha.short.1
  rw [← hlen]
  rw [hn] at hbd ⊢
  have HN := hid hn
  have HM := hid (hlen.symm.trans hn)
  clear ha hb he hs1 hs2 hn hlen
  go_enter Tryd.func17, Tryd.ntmps17
  go_wp2_with fail
  go_loopw [15] (fun vi wr => ∃ k : Nat, vi = .int .i64 k ∧ k ≤ n ∧ Only [] w wr) (fun vi _ => n - (RowKit.intOf vi).toNat)
  case atStart => exact ⟨0, rfl, by omega, Only.refl _ _⟩
  case round =>
    obtain ⟨k, rfl, hk, ho⟩ := hrel
    have HOK := hid ho
    clear ho
    by_cases hlt : k < n
    · obtain ⟨x, hxk⟩ := some_at (xs := xs) (i := k) (by rw [HN.out]; exact hlt)
      obtain ⟨y, hyk⟩ := some_at (xs := ys) (i := k) (by rw [HM.out]; exact hlt)
      have hxy : x.1 = y.1 := by
        have h1 := congrArg (·[k]?) HE.out
        simp only [List.getElem?_map, hxk, hyk, Option.map_some, Option.some.injEq] at h1
        exact h1
      obtain ⟨x1, x2, ax, cx, hx3, hx4⟩ := HA.out.rel x (List.mem_of_getElem? hxk)
      obtain ⟨y1, y2, ay, cy, hy3, hy4⟩ := HB.out.rel y (List.mem_of_getElem? hyk)
      have hnm : y.2.nm = x.2.nm := bl_inj (by rw [x1, y1, hxy])
      have hvl : y.2.vl = x.2.vl := bl_inj (by rw [x2, y2, hxy])
      obtain ⟨b, off, rfl, hbl, e0, e1, e2, e3, e4, e5, e6⟩ := (HS1.out.only HOK.out).tok hxk
      obtain ⟨b', off', rfl, hbl', f0, f1, f2, f3, f4, f5, f6⟩ := (HS2.out.only HOK.out).tok hyk
      rw [← hxy] at f0 f1 f2 f6 hy4 hy3
      rw [hnm] at f3
      rw [hvl] at f4
      rw [hx3] at e5
      rw [hy3] at f5
      have hchl := HA.out.short.2 x (List.mem_of_getElem? hxk)
      have HCH := hid (fun W (h : Only [] w W) => chars_true x.1.ch ax ay cx cy W (by omega) (hx4.only h) (hy4.only h))
      have hkl : (k : Int) < (n : Int) := by omega
      have hk0 : (0 : Int) ≤ (k : Int) := by omega
      have HLT := hid hlt
      obtain ⟨⟨kd, at_, en, nmL, vlL, em, ch⟩, ⟨nm, vl, cv⟩⟩ := x
      simp only at *
      obtain ⟨l, hl⟩ : ∃ l, ch.length = l := ⟨_, rfl⟩
      rw [hl] at HCH e5 f5
      have hlI : ¬ b = wr.heap.size := by omega
      have hlI' : ¬ b' = wr.heap.size := by omega
      clear hxk hyk x1 x2 y1 y2 hx3 hx4 hy3 hy4 hxy hnm hvl hlt hchl hl
      go_wp2_with fail
      go_region
      all_goals
        go_wp2_with fail
        refine (HCH.out _ (by first | exact ((HOK.out.alloc _).alloc _).drew | exact (HOK.out.drew.alloc _).alloc _)).mono ?_
        rintro e w1 ⟨rfl, d, rfl⟩
        go_wp2
        go_roundw
        case rel => exact ⟨k + 1, by go_num, HLT.out, ((HOK.out.alloc _).alloc _).drewN _⟩
        case measure => have := HLT.out; simp [RowKit.intOf]; omega
    · have hkl : ¬ (k : Int) < (n : Int) := by omega
      clear hlt
      go_wp2_with fail
      go_ret
      exact ⟨rfl, HOK.out⟩
end Go.Proofs.YthlbbinlkmchjaaDoor
