/- A moved document is the same one. -/
import Derived.Test.YtmlhibcbgdhadaaDoorMv
namespace Go.Proofs.YtmlhibcbgdhadaaDoor
open Go.RowKit

theorem key_f {p q : Ln} (h : key p = key q) : SameF p.1 q.1 := by
  have g : ∀ {α : Type} (f : Nd → α), f (key p).1 = f (key q).1 := fun f => by rw [h]
  refine ⟨g (·.kind), g (·.par), g (·.has), g (·.font), g (·.size), g (·.width), g (·.height), g (·.lead), g (·.skip), g (·.tol), ?_⟩
  have := g (fun x => x.chs.map (·.1))
  simpa [key, List.map_map, Function.comp_def] using this
theorem SameF.n {x y : Nd} (h : SameF x y) : sameN x y = true := by
  rw [sameN_chs h.kind h.par h.has h.font h.size h.width h.height h.lead h.skip h.tol]
  unfold runesB; exact decide_eq_true h.runes
theorem SameF.refl (x : Nd) : SameF x x := ⟨rfl, rfl, rfl, rfl, rfl, rfl, rfl, rfl, rfl, rfl, rfl⟩
/-- two rows, alike but for places -/
def Mo (a b : List Nd) : Prop := a.length = b.length ∧ ∀ i, SameF (nd a i) (nd b i)
theorem keys_mo {ps qs : List Ln} (h : qs.map key = ps.map key) : Mo (ps.map (·.1)) (qs.map (·.1)) := by
  have hl : qs.length = ps.length := by simpa using congrArg List.length h
  refine ⟨by simp [hl], fun i => ?_⟩
  rcases Nat.lt_or_ge i ps.length with g | g
  · obtain ⟨p, hp⟩ := some_at (xs := ps) (i := i) g
    obtain ⟨q, hq⟩ := some_at (xs := qs) (i := i) (by omega)
    have e := congrArg (fun l : List Ln => l[i]?) h
    simp only [List.getElem?_map, hp, hq, Option.map_some, Option.some.injEq] at e
    rw [nd_of (x := p.1) (by rw [List.getElem?_map, hp]; rfl), nd_of (x := q.1) (by rw [List.getElem?_map, hq]; rfl)]
    exact key_f e.symm
  · have e1 : nd (ps.map (·.1)) i = nd0 := by unfold nd; rw [List.getD_eq_getElem?_getD, List.getElem?_eq_none (by simpa using g)]; rfl
    have e2 : nd (qs.map (·.1)) i = nd0 := by unfold nd; rw [List.getD_eq_getElem?_getD, List.getElem?_eq_none (by simp; omega)]; rfl
    rw [e1, e2]
    exact SameF.refl _
theorem Mo.symm {a b : List Nd} (h : Mo a b) : Mo b a := ⟨h.1.symm, fun i => by
  have f := h.2 i
  exact ⟨f.kind.symm, f.par.symm, f.has.symm, f.font.symm, f.size.symm, f.width.symm, f.height.symm, f.lead.symm, f.skip.symm, f.tol.symm, f.runes.symm⟩⟩
theorem Mo.sameL {a b : List Nd} (h : Mo a b) : sameL a b = true := same_yes h.1 fun k _ => (h.2 k).n
theorem Mo.wy {a b : List Nd} (h : Mo a b) : ∀ f n, Go.Proofs.YtmlhibcbgdhadaaDoor.wy a f n = Go.Proofs.YtmlhibcbgdhadaaDoor.wy b f n
  | 0, _ => rfl
  | f + 1, n => by
    have e : np a n = np b n := (h.2 n).par
    unfold Go.Proofs.YtmlhibcbgdhadaaDoor.wy
    rw [e, Mo.wy h f]
theorem empty_len {α : Type} {l m : List α} (h : l.length = m.length) : l.isEmpty = m.isEmpty := by
  cases l <;> cases m <;> first | rfl | cases h
theorem Mo.ok {a b : List Nd} (h : Mo a b) (n : Nat) : Go.Proofs.YtmlhibcbgdhadaaDoor.ok a n = Go.Proofs.YtmlhibcbgdhadaaDoor.ok b n := by
  have hk : nk a = nk b := funext fun i => (h.2 i).kind
  have hp : np a = np b := funext fun i => (h.2 i).par
  have hw : way a = way b := funext fun i => h.wy _ _
  have f := h.2 n
  have h1 : plc a n = plc b n := by unfold plc; rw [hk, hp, hw]
  have h2 : atr (nd a n) = atr (nd b n) := by
    unfold atr hb
    rw [f.kind, f.has, f.font, f.size, f.width, f.height, f.lead, f.skip, f.tol]
  have h3 : say a n = say b n := by
    have e1 : (nd a n).chs.isEmpty = (nd b n).chs.isEmpty := by
      have := congrArg List.length f.runes
      simp only [List.length_map] at this
      exact empty_len this
    unfold say
    rw [hk, hp, e1, textM_same f.runes]
  unfold Go.Proofs.YtmlhibcbgdhadaaDoor.ok
  rw [h1, h2, h3]
theorem Mo.chk {a b : List Nd} (h : Mo a b) : chkN a = chkN b := by
  have : Go.Proofs.YtmlhibcbgdhadaaDoor.ok a = Go.Proofs.YtmlhibcbgdhadaaDoor.ok b := funext h.ok
  unfold chkN
  rw [h.1, this]
theorem Mo.doc {a b : List Nd} (h : Mo a b) (hd : Doc a) : Doc b := chk_doc.1 (by rw [← h.chk]; exact chk_doc.2 hd)
theorem Mo.prt {a b : List Nd} (h : Mo a b) (hd : Doc a) : prt a = prt b := prt_same hd h.sameL
theorem Mo.sum {a b : List Nd} (h : Mo a b) : sumC a a.length = sumC b b.length := by
  unfold sumC
  rw [List.take_length, List.take_length]
  congr 1
  apply List.ext_getElem (by simp [h.1])
  intro i h1 h2
  simp only [List.getElem_map]
  have f := (h.2 i).runes
  rw [nd_of (List.getElem?_eq_getElem (by simpa using h1)), nd_of (List.getElem?_eq_getElem (by simpa using h2))] at f
  simpa using congrArg List.length f
/-- one kept list -/
theorem MV.kept {w : World} {B xb ab ac : Nat} {vc : Value} {ps : List Ln} (h : MV w B xb ab ac vc ps) {k : Nat} {p : Ln} (hk : ps[k]? = some p) :
    ∃ vb vcp, vc = .slice (some ⟨vb, 0, none⟩) ps.length vcp ∧ w.cell? ⟨vb, k, none⟩ = some (lc p) ∧ Ty w vb 40 := by
  have hlt := (List.getElem?_eq_some_iff.1 hk).1
  obtain ⟨m, hm⟩ : ∃ m, ps.length = m + 1 := ⟨ps.length - 1, by omega⟩
  have hv := h.vc
  rw [hm] at hv
  obtain ⟨vb, vcp, rfl, -⟩ := row_succ hv
  obtain ⟨ad, cap, e, hs, -⟩ := row_reads hv
  injection e with e1 e2 e3
  subst e1
  obtain ⟨b, off, e4, ha⟩ := hs (by omega)
  injection e4 with e4
  injection e4 with e4 e5
  subst e4 e5
  have h1 := ha.2 k (lc p) (by rw [List.getElem?_map, hk]; rfl)
  rw [Nat.zero_add] at h1
  exact ⟨vb, vcp, by rw [hm], h1, Ty.row hv rfl⟩
end Go.Proofs.YtmlhibcbgdhadaaDoor
