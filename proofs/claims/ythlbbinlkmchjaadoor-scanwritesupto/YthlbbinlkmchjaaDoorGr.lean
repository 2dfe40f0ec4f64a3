/- Scan under the great budgets: what is told, what is handed out. (FirstX has the same words: never import both.) -/
import Derived.Test.YthlbbinlkmchjaaDoorShown
import Derived.Test.YthlbbinlkmchjaaDoorFits
import Derived.Test.YthlbbinlkmchjaaDoorEncsAll
namespace Go.Proofs.YthlbbinlkmchjaaDoor
open Go.RowKit

/-- the fault of a markup, under great budgets -/
def fl (s : ByteArray) : Int × Int := match (GS s 0 0).2 with
  | none => (0, 0)
  | some x => (x.1, x.2)
def gA (s : ByteArray) : M := { gM with dn := (endS s.size (GS s 0 0).2 : Nat), nw := ((GS s 0 0).1.length : Nat), pk := ((GS s 0 0).1.length : Nat) }
/-- the tokens that are handed out -/
def tks (s : ByteArray) : List Tk := match (GS s 0 0).2 with
  | none => (GS s 0 0).1
  | some _ => []
theorem an_great {s : ByteArray} (hs : s.size ≤ 4294967296) : An s gM [] 0 0 = (gA s, flt (GS s 0 0).1 (GS s 0 0).2) := by
  have h1 := endS_le s
  have h2 := G_few ((rest s 0).length + 1) 0 0 (rest s 0)
  rw [show G ((rest s 0).length + 1) 0 0 (rest s 0) = GS s 0 0 from rfl, rest_length] at h2
  unfold An
  rw [ans_fits s.size (GS s 0 0).2 (GS s 0 0).1 gM [] 0 gM_ok rfl (GS_rise s) (by simp only [gM]; omega) (by simp only [gM]; omega)]
  simp only [gM, gA, Nat.sub_zero, List.nil_append, Int.zero_add, Prod.mk.injEq, and_true]
  congr 1
  first | done | omega
theorem scanG_c {W : World} {mb : Nat} {s : ByteArray} (hm : Blk W mb gM.cells 68) (hs : s.size ≤ 4294967296) (hT : Tc W) (h3 : 3 ≤ mb) :
    Calls Tryd.prog 13 #[.pointer (some ⟨mb, 0, none⟩), .string s] W fun e w' => ∃ tv xs, e = .returned (.tuple #[tv, .agg #[.int .i64 (fl s).1, .int .i64 (fl s).2]]) ∧ TL w' W.heap.size tv xs ∧ Blk w' mb (gA s).cells 68 ∧ Only [mb] W w' ∧ xs.map (·.1) = tks s := by
  refine (scan_c hm gM_ok rfl hs hT h3).mono ?_
  rintro e w' ⟨tv, xs, F, rfl, htl, hb, -, ho, hr⟩
  rw [an_great hs] at hb hr
  refine ⟨tv, xs, ?_, htl, hb, ho, ?_⟩
  · unfold fl
    rcases h : (GS s 0 0).2 with _ | ⟨k, n⟩
    · rw [h] at hr; simp only [flt] at hr; rw [hr.2]
    · rw [h] at hr; simp only [flt] at hr; rw [hr.2.1]
  · unfold tks
    rcases h : (GS s 0 0).2 with _ | ⟨k, n⟩
    · rw [h] at hr; simp only [flt] at hr; exact hr.1
    · rw [h] at hr; simp only [flt] at hr; rw [hr.1]; rfl
theorem gs_some {s : ByteArray} (h : fl s ≠ (0, 0)) : ∃ kk nn, (GS s 0 0).2 = some (kk, nn) ∧ fl s = ((kk : Int), (nn : Int)) ∧ tks s = [] := by
  rcases hg : (GS s 0 0).2 with _ | ⟨kk, nn⟩
  · exact absurd (by unfold fl; rw [hg]) h
  · exact ⟨kk, nn, rfl, by unfold fl; rw [hg], by unfold tks; rw [hg]⟩
theorem gs_none {s : ByteArray} (h : fl s = (0, 0)) : (GS s 0 0).2 = none ∧ tks s = (GS s 0 0).1 := by
  rcases hg : (GS s 0 0).2 with _ | ⟨kk, nn⟩
  · exact ⟨rfl, by unfold tks; rw [hg]⟩
  · exfalso
    unfold fl at h
    rw [hg] at h
    simp only [Prod.mk.injEq] at h
    exact G_kd _ _ _ _ kk nn hg (by omega)
theorem gs_pl {s : ByteArray} (h : (GS s 0 0).2 = none) : Pl (bl s) 0 0 (GS s 0 0).1 :=
  G_pl (bl s) _ 0 0 0 (rest s 0) rfl (Nat.zero_le _) (fun _ => rfl) (fun h => by cases h) (by decide) (gap_nil _ _) h
theorem TL.sl {w : World} {B : Nat} {tv : Value} {xs : List (Tk × Tm)} (h : TL w B tv xs) : ∃ ad cap, tv = .slice ad xs.length cap ∧ Sl w ad xs.length (xs.flatMap tmc) := by
  obtain ⟨ad, cap, e, hs, _⟩ := row_reads h.row
  exact ⟨ad, cap, e, hs⟩
theorem TL.chs {w : World} {B : Nat} {tv : Value} {xs : List (Tk × Tm)} (h : TL w B tv xs) {x : Tk × Tm} (hx : x ∈ xs) : ∃ ad cap, x.2.cv = .slice ad x.1.ch.length cap ∧ Sl w ad x.1.ch.length (x.1.ch.flatMap chc) := by
  obtain ⟨ad, cap, e, hs, _⟩ := row_reads (h.rel x hx).ch
  exact ⟨ad, cap, e, hs⟩
end Go.Proofs.YthlbbinlkmchjaaDoor
