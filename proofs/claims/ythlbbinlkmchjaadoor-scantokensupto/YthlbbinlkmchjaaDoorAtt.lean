/- The cutter's attribute. -/
import Derived.Test.YthlbbinlkmchjaaDoorTags
namespace Go.Proofs.YthlbbinlkmchjaaDoor
open Go.RowKit

set_option maxRecDepth 100000 in
set_option maxHeartbeats 8000000 in
theorem attribute_c {w0 w : World} {cb mb : Nat} {s : ByteArray} {p : Nat} {m : M} {xs : List (Tk × Tm)} {tv : Value} (h : Sc w0 w cb mb s p m xs tv) :
    Calls Tryd.prog 86 #[.pointer (some ⟨cb, 0, none⟩)] w fun e w' => PT w0 w' cb mb s xs (finT (fo s m p (attP p))) e := by
  have HS := hid h
  have hok := h.cu.ok
  have hw := h.cu.why
  have c2 : w.cell? ⟨cb, 2, none⟩ = some (.int .i64 p) := h.cu.c.cell 2
  have HN := hid (name_c h.cu)
  clear h
  rcases h1 : fo s m p (name) with ⟨m1, F | ⟨nm, q1⟩⟩
  · rw [show fo s m p (attP p) = (m1, .error F) from fo_then_bad hw fair_name h1]
    rw [h1] at HN
    go_enter Tryd.func86, Tryd.ntmps86
    go_wp2_with fail
    refine HN.out.mono ?_
    rintro e w1 ⟨⟨⟨z, rfl, rfl⟩, hx⟩, hol⟩
    go_wp2
    go_ret
    exact ⟨rfl, hx, HS.out.off hol⟩
  rw [show fo s m p (attP p) = _ from fo_then_ok hw fair_name h1]
  rw [h1] at HN
  have g1 : p ≤ q1 := fo_ge hw h1
  have g0 := fo_gt hw goes_name h1
  have hok1 := fo_mok hok h1
  have hw1 := fo_why hw h1
  rcases h2 : fo s m1 q1 (word 70 [61, 34]) with ⟨m2, F | ⟨u2, q2⟩⟩
  · rw [fo_then_bad hw1 (fair_word _ _) h2]
    go_enter Tryd.func86, Tryd.ntmps86
    go_wp2_with fail
    refine HN.out.mono ?_
    rintro e w1 ⟨⟨⟨z, rfl, t, rfl, ht⟩, hx⟩, hol⟩
    have HS1 := hid (HS.out.on hx hol (by simp only; omega))
    have HW2 := hid (word_c hx ⟨#[61, 34]⟩ (by decide) 70)
    rw [show bl ⟨#[61, 34]⟩ = [61, 34] by decide, h2] at HW2
    clear hx hol
    go_wp2_with fail
    refine HW2.out.mono ?_
    rintro e w2 ⟨⟨rfl, hx⟩, hol⟩
    go_wp2
    go_ret
    exact ⟨rfl, hx, HS1.out.off hol⟩
  rw [fo_then_ok hw1 (fair_word _ _) h2]
  have g2 : q1 ≤ q2 := fo_ge hw1 h2
  have hok2 := fo_mok hok1 h2
  have hw2 := fo_why hw1 h2
  rcases h3 : fo s m2 q2 (valK 256) with ⟨m3, F | ⟨vl, q3⟩⟩
  · rw [fo_then_bad hw2 (fair_val _) h3]
    go_enter Tryd.func86, Tryd.ntmps86
    go_wp2_with fail
    refine HN.out.mono ?_
    rintro e w1 ⟨⟨⟨z, rfl, t, rfl, ht⟩, hx⟩, hol⟩
    have HS1 := hid (HS.out.on hx hol (by simp only; omega))
    have HW2 := hid (word_c hx ⟨#[61, 34]⟩ (by decide) 70)
    rw [show bl ⟨#[61, 34]⟩ = [61, 34] by decide, h2] at HW2
    clear hx hol
    go_wp2_with fail
    refine HW2.out.mono ?_
    rintro e w2 ⟨⟨rfl, hx⟩, hol⟩
    have HS2 := hid (HS1.out.on hx hol (by simp only; omega))
    have HV := hid (value_c hx HS2.out.tcw HS2.out.b3)
    rw [h3] at HV
    clear hx hol
    go_wp2_with fail
    refine HV.out.mono ?_
    rintro e w3 ⟨⟨⟨z, rfl, rfl⟩, hx⟩, hol⟩
    go_wp2
    go_ret
    exact ⟨rfl, hx, HS2.out.off hol⟩
  rw [fo_then_ok hw2 (fair_val _) h3]
  have g3 : q2 ≤ q3 := fo_ge hw2 h3
  have hok3 := fo_mok hok2 h3
  have hw3 := fo_why hw2 h3
  rcases h4 : fo s m3 q3 (word 70 [34]) with ⟨m4, F | ⟨u4, q4⟩⟩
  · rw [fo_then_bad hw3 (fair_word _ _) h4]
    go_enter Tryd.func86, Tryd.ntmps86
    go_wp2_with fail
    refine HN.out.mono ?_
    rintro e w1 ⟨⟨⟨z, rfl, t, rfl, ht⟩, hx⟩, hol⟩
    have HS1 := hid (HS.out.on hx hol (by simp only; omega))
    have HW2 := hid (word_c hx ⟨#[61, 34]⟩ (by decide) 70)
    rw [show bl ⟨#[61, 34]⟩ = [61, 34] by decide, h2] at HW2
    clear hx hol
    go_wp2_with fail
    refine HW2.out.mono ?_
    rintro e w2 ⟨⟨rfl, hx⟩, hol⟩
    have HS2 := hid (HS1.out.on hx hol (by simp only; omega))
    have HV := hid (value_c hx HS2.out.tcw HS2.out.b3)
    rw [h3] at HV
    clear hx hol
    go_wp2_with fail
    refine HV.out.mono ?_
    rintro e w3 ⟨⟨⟨z, rfl, tl, rfl, htl⟩, hx⟩, hol⟩
    have HS3 := hid (HS2.out.on hx hol (by simp only; omega))
    have HW4 := hid (word_c hx ⟨#[34]⟩ (by decide) 70)
    rw [show bl ⟨#[34]⟩ = [34] by decide, h4] at HW4
    clear hx hol
    go_wp2_with fail
    refine HW4.out.mono ?_
    rintro e w4 ⟨⟨rfl, hx⟩, hol⟩
    go_wp2
    go_ret
    exact ⟨rfl, hx, HS3.out.off hol⟩
  rw [fo_then_ok hw3 (fair_word _ _) h4]
  have g4 : q3 ≤ q4 := fo_ge hw3 h4
  have hok4 := fo_mok hok3 h4
  have hw4 := fo_why hw3 h4
  rw [fo_done hok4 hw4]
  rcases hh : m4.holdOk 1 with _ | _
  · rw [finT_no hh]
    have HH := hid hh
    clear hh
    go_enter Tryd.func86, Tryd.ntmps86
    go_wp2_with fail
    refine HN.out.mono ?_
    rintro e w1 ⟨⟨⟨z, rfl, t, rfl, ht⟩, hx⟩, hol⟩
    have HS1 := hid (HS.out.on hx hol (by simp only; omega))
    have HW2 := hid (word_c hx ⟨#[61, 34]⟩ (by decide) 70)
    rw [show bl ⟨#[61, 34]⟩ = [61, 34] by decide, h2] at HW2
    clear hx hol
    go_wp2_with fail
    refine HW2.out.mono ?_
    rintro e w2 ⟨⟨rfl, hx⟩, hol⟩
    have HS2 := hid (HS1.out.on hx hol (by simp only; omega))
    have HV := hid (value_c hx HS2.out.tcw HS2.out.b3)
    rw [h3] at HV
    clear hx hol
    go_wp2_with fail
    refine HV.out.mono ?_
    rintro e w3 ⟨⟨⟨z, rfl, tl, rfl, htl⟩, hx⟩, hol⟩
    have HS3 := hid (HS2.out.on hx hol (by simp only; omega))
    have HW4 := hid (word_c hx ⟨#[34]⟩ (by decide) 70)
    rw [show bl ⟨#[34]⟩ = [34] by decide, h4] at HW4
    clear hx hol
    go_wp2_with fail
    refine HW4.out.mono ?_
    rintro e w4 ⟨⟨rfl, hx⟩, hol⟩
    have HS4 := hid (HS3.out.on hx hol (by simp only; omega))
    have hs := HS4.out
    have HT := hid ((token_s hs ⟨2, p, 0, nm, vl.flatMap enc, false, []⟩ ⟨t, tl, nilS⟩ ht htl (nil_row _ _) nil_new (by have := HS.out.len; omega) 0))
    clear hs hx hol
    go_wp2_with fail
    refine HT.out.mono ?_
    rintro e w5 ⟨-, h2⟩
    obtain ⟨rfl, hx, ho⟩ := h2 HH.out
    go_wp2
    go_ret
    exact ⟨rfl, hx, ho⟩
  · rw [finT_yes hh]
    have HH := hid hh
    clear hh
    go_enter Tryd.func86, Tryd.ntmps86
    go_wp2_with fail
    refine HN.out.mono ?_
    rintro e w1 ⟨⟨⟨z, rfl, t, rfl, ht⟩, hx⟩, hol⟩
    have HS1 := hid (HS.out.on hx hol (by simp only; omega))
    have HW2 := hid (word_c hx ⟨#[61, 34]⟩ (by decide) 70)
    rw [show bl ⟨#[61, 34]⟩ = [61, 34] by decide, h2] at HW2
    clear hx hol
    go_wp2_with fail
    refine HW2.out.mono ?_
    rintro e w2 ⟨⟨rfl, hx⟩, hol⟩
    have HS2 := hid (HS1.out.on hx hol (by simp only; omega))
    have HV := hid (value_c hx HS2.out.tcw HS2.out.b3)
    rw [h3] at HV
    clear hx hol
    go_wp2_with fail
    refine HV.out.mono ?_
    rintro e w3 ⟨⟨⟨z, rfl, tl, rfl, htl⟩, hx⟩, hol⟩
    have HS3 := hid (HS2.out.on hx hol (by simp only; omega))
    have HW4 := hid (word_c hx ⟨#[34]⟩ (by decide) 70)
    rw [show bl ⟨#[34]⟩ = [34] by decide, h4] at HW4
    clear hx hol
    go_wp2_with fail
    refine HW4.out.mono ?_
    rintro e w4 ⟨⟨rfl, hx⟩, hol⟩
    have HS4 := hid (HS3.out.on hx hol (by simp only; omega))
    have hs := HS4.out
    have HT := hid ((token_s hs ⟨2, p, 0, nm, vl.flatMap enc, false, []⟩ ⟨t, tl, nilS⟩ ht htl (nil_row _ _) nil_new (by have := HS.out.len; omega) 0))
    clear hs hx hol
    go_wp2_with fail
    refine HT.out.mono ?_
    rintro e w5 ⟨h1, -⟩
    obtain ⟨rfl, tv', hx⟩ := h1 HH.out
    go_wp2
    go_ret
    exact ⟨rfl, _, tv', hx⟩
end Go.Proofs.YthlbbinlkmchjaaDoor
