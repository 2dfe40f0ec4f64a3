/- One text, one document. -/
import Derived.Test.YtmlhibcbgdhadaaDoorInjA
import Derived.Test.YtmlhibcbgdhadaaDoorSame
namespace Go.Proofs.YtmlhibcbgdhadaaDoor
open Go.RowKit

/-! ### what is open -/
theorem clos_at (ns : List Nd) (t : Nat) (r : List Nat) : ∀ u : List Nat, t ∉ u → clos ns (t : Int) (u ++ t :: r) = (t :: r, u.flatMap (ctag ns))
  | [], _ => by show clos ns (t : Int) (t :: r) = _; unfold clos; rw [if_pos rfl]; rfl
  | a :: u, h => by
    have ih := clos_at ns t r u (fun q => h (List.mem_cons_of_mem _ q))
    show clos ns (t : Int) (a :: (u ++ t :: r)) = _
    unfold clos
    rw [if_neg (fun q => h (by have : a = t := by omega
                               rw [this]; exact List.mem_cons_self)), ih]
    rfl
theorem clos_all (ns : List Nd) : ∀ l : List Nat, clos ns (-1) l = ([], l.flatMap (ctag ns))
  | [] => rfl
  | a :: u => by
    unfold clos
    rw [if_neg (by omega), clos_all ns u]
    rfl
def isE (ns : List Nd) (k : Nat) : Bool := !(nk ns k == 4 || nk ns k == 5)
theorem run_stack {ns : List Nd} {m : Nat} (h : Gd ns m) : ∀ n, n < m → (runP ns (n + 1)).1 = ((way ns n).filter (isE ns)).reverse ∧ (0 < n → ∃ u r, (runP ns n).1 = u ++ (np ns n).toNat :: r ∧ (np ns n).toNat ∉ u) := by
  intro n
  induction n with
  | zero =>
    intro hm
    have hk := (plc_zero (ok_plc (h 0 hm))).1
    refine ⟨?_, fun q => absurd q (Nat.lt_irrefl _)⟩
    rw [way_zero h.pn hm]
    have e : isE ns 0 = true := by unfold isE; rw [hk]; rfl
    unfold runP
    have h45 : ¬ (nk ns 0 = 4 ∨ nk ns 0 = 5) := by omega
    simp only [if_neg h45]
    simp [runP, clos, e]
  | succ n ih =>
    intro hm
    obtain ⟨ih1, -⟩ := ih (by omega)
    have hpos : 0 < n + 1 := Nat.succ_pos _
    obtain ⟨p0, pw, pb, -⟩ := plc_pos (ok_plc (h (n + 1) hm)) hpos
    simp only [Nat.add_sub_cancel] at pw
    have pn := (h.pn (n + 1) hm).2 hpos
    obtain ⟨p, hp⟩ : ∃ p : Nat, np ns (n + 1) = (p : Int) := ⟨(np ns (n + 1)).toNat, by omega⟩
    rw [hp, Int.toNat_natCast] at pw pb
    have hplt : p < m := by omega
    have hpe : isE ns p = true := by
      have := brs_elem pb
      unfold isE
      rcases this with e | e | e <;> rw [e] <;> rfl
    obtain ⟨t, ht⟩ := way_pre h.pn n (by omega) p pw
    have hl := way_last (ns := ns) p
    obtain ⟨q, hq⟩ : ∃ q, way ns p = q ++ [p] := by
      rcases List.eq_nil_or_concat (way ns p) with e | ⟨q, x, e⟩
      · exact absurd e (way_ne p)
      · rw [List.concat_eq_append] at e
        rw [e] at hl
        simp at hl
        exact ⟨q, by rw [e, hl]⟩
    have hr := way_rise h.pn n (by omega)
    have hpt : p ∉ t := by
      rw [← ht, hq, List.append_assoc] at hr
      have h2 := (List.pairwise_append.1 hr).2.1
      have h3 := (List.pairwise_cons.1 h2).1
      exact fun z => Nat.lt_irrefl _ (h3 p z)
    have hst : (runP ns (n + 1)).1 = (t.filter (isE ns)).reverse ++ p :: (q.filter (isE ns)).reverse := by
      rw [ih1, ← ht, hq, List.filter_append, List.filter_append, List.reverse_append, List.reverse_append]
      simp [hpe]
    have hnm : p ∉ (t.filter (isE ns)).reverse := fun z => hpt (List.mem_filter.1 (List.mem_reverse.1 z)).1
    refine ⟨?_, fun _ => ⟨_, _, by rw [hp, Int.toNat_natCast]; exact hst, by rw [hp, Int.toNat_natCast]; exact hnm⟩⟩
    have hway := way_pos h.pn hm hpos
    rw [hp, Int.toNat_natCast] at hway
    rw [hway, List.filter_append, List.reverse_append]
    have hc : (clos ns (np ns (n + 1)) (runP ns (n + 1)).1).1 = ((way ns p).filter (isE ns)).reverse := by
      rw [hp, hst, clos_at ns p _ _ hnm, hq, List.filter_append, List.reverse_append]
      simp [hpe]
    conv => lhs; unfold runP
    dsimp only
    rw [hc]
    by_cases h45 : nk ns (n + 1) = 4 ∨ nk ns (n + 1) = 5
    · have e : isE ns (n + 1) = false := by unfold isE; rcases h45 with e | e <;> rw [e] <;> rfl
      rw [if_pos h45]
      simp [e]
    · have e : isE ns (n + 1) = true := by unfold isE; simpa using h45
      rw [if_neg h45]
      simp [e]
theorem run_split {ns : List Nd} {m n : Nat} (h : Gd ns m) (hn : n < m) (h0 : 0 < n) : ∃ u r, (runP ns n).1 = u ++ (np ns n).toNat :: r ∧ (np ns n).toNat ∉ u := (run_stack h n hn).2 h0

/-! ### what stands behind the first n nodes -/
def tl (ns : List Nd) : Nat → Nat → List Nat
  | 0, n => (clos ns (-1) (runP ns n).1).2
  | k + 1, n => (clos ns (np ns n) (runP ns n).1).2 ++ (itemB (nd ns n) ++ tl ns k (n + 1))
theorem tl_prt (ns : List Nd) : ∀ k n, n + k = ns.length → (runP ns n).2 ++ tl ns k n = prt ns
  | 0, n, h => by
    have : n = ns.length := by omega
    subst this; rfl
  | k + 1, n, h => by
    have e1 : tl ns (k + 1) n = (clos ns (np ns n) (runP ns n).1).2 ++ (itemB (nd ns n) ++ tl ns k (n + 1)) := rfl
    have e2 : (runP ns (n + 1)).2 = (runP ns n).2 ++ (clos ns (np ns n) (runP ns n).1).2 ++ itemB (nd ns n) := rfl
    rw [← tl_prt ns k (n + 1) (by omega), e1, e2]
    simp only [List.append_assoc]
theorem ok_pr {ns : List Nd} {n : Nat} (h : ok ns n = true) (hf : I64 (nd ns n).has) : Pr (nd ns n) := by
  have hs : say ns n = true := by unfold ok at h; simp at h; exact h.2
  have hk := plc_kind (ok_plc h)
  refine ⟨hf, ok_atr h, hk, fun h4 => ?_, fun h4 => ?_⟩
  · unfold say at hs
    rw [if_pos (show nk ns n = 4 from h4)] at hs
    simp only [Bool.and_eq_true, Bool.not_eq_true'] at hs
    exact ⟨fun e => by rw [e] at hs; exact absurd hs.1.1 (by decide), hs.2⟩
  · unfold say at hs
    rw [if_neg (show ¬ nk ns n = 4 from h4)] at hs
    simpa using hs
theorem lt_ctag (ns : List Nd) (l : List Nat) (hl : l ≠ []) (X : List Nat) : Lt (l.flatMap (ctag ns) ++ X) := by
  obtain ⟨a, u, rfl⟩ := List.exists_cons_of_ne_nil hl
  exact .inr ⟨_, by rw [List.flatMap_cons]; unfold ctag; rfl⟩
theorem lt_all (ns : List Nd) (l : List Nat) : Lt (l.flatMap (ctag ns)) := by
  rcases List.eq_nil_or_concat l with e | ⟨q, x, e⟩
  · subst e; exact .inl rfl
  · have := lt_ctag ns l (by rw [e]; simp) []
    rwa [List.append_nil] at this
/-- behind a text stands nothing, or '<' -/
theorem text_end {ns : List Nd} (hd : Doc ns) {n k : Nat} (h4 : nk ns n = 4) (hk : n + 1 + k = ns.length) : Lt (tl ns k (n + 1)) := by
  rcases k with _ | k
  · unfold tl; rw [clos_all]; exact lt_all _ _
  · have hn : n + 1 < ns.length := by omega
    have hg := hd.2.2
    obtain ⟨u, r, e1, e2⟩ := run_split hg hn (Nat.succ_pos _)
    have hpn := (hg.pn (n + 1) hn).2 (Nat.succ_pos _)
    have hpe : np ns (n + 1) = ((np ns (n + 1)).toNat : Int) := by omega
    unfold tl
    rw [hpe, e1, clos_at ns _ _ _ e2]
    by_cases hu : u = []
    · subst hu
      have hok := hg (n + 1) hn
      have hs : say ns (n + 1) = true := by unfold ok at hok; simp at hok; exact hok.2
      have h0 : 0 < n := by
        rcases Nat.eq_zero_or_pos n with e | e
        · subst e; have := (plc_zero (ok_plc (hg 0 (by omega)))).1; omega
        · exact e
      -- the text's own Parent is the last one open
      have hrun : (runP ns (n + 1)).1 = (clos ns (np ns n) (runP ns n).1).1 := by
        conv => lhs; unfold runP
        dsimp only
        rw [if_pos (.inl h4)]
      obtain ⟨u', r', e3, e4⟩ := run_split hg (show n < ns.length by omega) h0
      have hpn' := (hg.pn n (by omega)).2 h0
      have hpe' : np ns n = ((np ns n).toNat : Int) := by omega
      rw [hrun, hpe', e3, clos_at ns _ _ _ e4] at e1
      have hpp : np ns n = np ns (n + 1) := by
        have h1 := List.cons.inj e1
        have := h1.1
        omega
      have hn4 : nk ns (n + 1) ≠ 4 := fun e => by
        unfold say at hs
        rw [if_pos e] at hs
        simp only [Nat.add_sub_cancel, Bool.and_eq_true, Bool.not_eq_true'] at hs
        have := hs.1.2
        rw [h4, hpp] at this
        simp at this
      have hkk := plc_kind (ok_plc hok)
      have hq : (nd ns (n + 1)).kind = 5 ∨ (nd ns (n + 1)).kind ≤ 3 := by
        have : nk ns (n + 1) = (nd ns (n + 1)).kind := rfl
        omega
      rcases hq with q | q
      · rw [item_br q]; exact .inr ⟨_, rfl⟩
      · rw [item_tag q]; unfold tagB; exact .inr ⟨_, rfl⟩
    · exact lt_ctag ns u hu _
/-- closing tags, and what is none behind them -/
theorem closings_inj {ns ms : List Nd} {X Y : List Nat} (hX : ∀ Z, X ≠ 60 :: 47 :: Z) (hY : ∀ Z, Y ≠ 60 :: 47 :: Z) : ∀ u v : List Nat, (∀ i ∈ u, 1 ≤ nk ns i ∧ nk ns i ≤ 3) → (∀ i ∈ v, 1 ≤ nk ms i ∧ nk ms i ≤ 3) → u.flatMap (ctag ns) ++ X = v.flatMap (ctag ms) ++ Y → u.length = v.length ∧ X = Y
  | [], [], _, _, h => ⟨rfl, by simpa using h⟩
  | [], b :: v, _, _, h => by
    rw [List.flatMap_nil, List.nil_append, List.flatMap_cons] at h
    unfold ctag at h
    exact absurd h (by simpa using hX _)
  | a :: u, [], _, _, h => by
    rw [List.flatMap_nil, List.nil_append, List.flatMap_cons] at h
    unfold ctag at h
    exact absurd h.symm (by simpa using hY _)
  | a :: u, b :: v, hu, hv, h => by
    rw [List.flatMap_cons, List.flatMap_cons] at h
    unfold ctag at h
    simp only [List.cons_append, List.nil_append, List.append_assoc, List.cons.injEq, true_and] at h
    have no : ∀ k : Int, 62 ∉ nameB k := fun k => by
      unfold nameB
      repeat' split
      all_goals decide
    have h2 := (split_at (no _) (no _) h).2
    obtain ⟨e1, e2⟩ := closings_inj hX hY u v (fun i hi => hu i (List.mem_cons_of_mem _ hi)) (fun i hi => hv i (List.mem_cons_of_mem _ hi)) h2
    exact ⟨by simp [e1], e2⟩

/-! ### two documents whose first nodes are alike -/
theorem clos_congr {a b : List Nd} (p : Int) : ∀ l : List Nat, (∀ i ∈ l, nk a i = nk b i) → clos a p l = clos b p l
  | [], _ => rfl
  | t :: r, h => by
    have ih := clos_congr p r (fun i hi => h i (List.mem_cons_of_mem _ hi))
    unfold clos
    rw [ih]
    have : ctag a t = ctag b t := by unfold ctag; rw [h t List.mem_cons_self]
    rw [this]
structure SameF (x y : Nd) : Prop where
  kind : x.kind = y.kind
  par : x.par = y.par
  has : x.has = y.has
  font : x.font = y.font
  size : x.size = y.size
  width : x.width = y.width
  height : x.height = y.height
  lead : x.lead = y.lead
  skip : x.skip = y.skip
  tol : x.tol = y.tol
  runes : x.chs.map (·.1) = y.chs.map (·.1)
theorem sameN_f {x y : Nd} (h : sameN x y = true) : SameF x y := by
  unfold sameN runesB at h
  simp only [Bool.and_eq_true, beq_iff_eq, decide_eq_true_eq] at h
  obtain ⟨⟨⟨⟨⟨⟨⟨⟨⟨⟨h0, h1⟩, h2⟩, h3⟩, h4⟩, h5⟩, h6⟩, h7⟩, h8⟩, h9⟩, h10⟩ := h
  exact ⟨h0, h1, h2, h3, h4, h5, h6, h7, h8, h9, h10⟩
theorem textM_same {a b : List (Int × Int × Int)} (h : a.map (·.1) = b.map (·.1)) : textM a = textM b := by
  have h1 : a.all (fun x => isR x.1) = b.all (fun x => isR x.1) := by
    have := congrArg (fun l : List Int => l.all isR) h
    simpa [List.all_map, Function.comp_def] using this
  have h2 : (a.flatMap fun x => tx x.1.toNat) = b.flatMap fun x => tx x.1.toNat := by
    have := congrArg (fun l : List Int => l.flatMap fun r => tx r.toNat) h
    simpa [List.flatMap_map] using this
  unfold textM
  rw [h1, h2]
theorem item_same {x y : Nd} (h : sameN x y = true) : itemB x = itemB y := by
  have f := sameN_f h
  have ht : tagB x = tagB y := by
    have ha : ∀ j, attB x j = attB y j := fun j => by
      have e1 : hb x (aBit j) = hb y (aBit j) := by unfold hb; rw [f.has]
      have e2 : aVl x j = aVl y j := by
        unfold aVl
        split
        · rw [f.width]
        · rw [f.height]
        · rw [f.font]
        · rw [f.size]
        · rw [f.lead]
        · rw [f.skip]
        · rw [f.tol]
      unfold attB; rw [e1, e2]
    have : attB x = attB y := funext ha
    unfold tagB attsB
    rw [this, f.kind]
  unfold itemB
  rw [f.kind, ht, textM_same f.runes]
theorem run_same {a b : List Nd} : ∀ n, (∀ i, i < n → sameN (nd a i) (nd b i) = true) → Gd a n → runP a n = runP b n
  | 0, _, _ => rfl
  | n + 1, h, hg => by
    have ih := run_same n (fun i hi => h i (by omega)) (hg.mono (Nat.le_succ _))
    have f := sameN_f (h n (Nat.lt_succ_self _))
    have ek : nk a n = nk b n := f.kind
    have ep : np a n = np b n := f.par
    have hc : clos a (np b n) (runP b n).1 = clos b (np b n) (runP b n).1 := clos_congr _ _ fun i hi => by
      rw [← ih] at hi
      have := (runP_elems n (hg.mono (Nat.le_succ _)) i hi).1
      exact (sameN_f (h i (by omega))).kind
    unfold runP
    rw [ih, ek, ep, hc, item_same (h n (Nat.lt_succ_self _))]
theorem prt_same {a b : List Nd} (ha : Doc a) (h : sameL a b = true) : prt a = prt b := by
  unfold sameL at h
  simp only [Bool.and_eq_true, decide_eq_true_eq, List.all_eq_true, List.mem_range] at h
  have hr := run_same (a := a) (b := b) a.length h.2 ha.2.2
  unfold prt
  rw [← h.1, ← hr]
  have hc : clos a (-1) (runP a a.length).1 = clos b (-1) (runP a a.length).1 := clos_congr _ _ fun i hi =>
    (sameN_f (h.2 i (runP_elems _ ha.2.2 i hi).1)).kind
  rw [hc]
/-- two documents of one text are alike, node by node -/
theorem prt_step {a b : List Nd} (ha : Doc a) (hb : Doc b) (fa : ∀ x ∈ a, I64 x.has) (fb : ∀ x ∈ b, I64 x.has) (h : prt a = prt b) :
    ∀ n, n ≤ a.length → n ≤ b.length ∧ ∀ i, i < n → sameN (nd a i) (nd b i) = true
  | 0, _ => ⟨Nat.zero_le _, fun i hi => absurd hi (Nat.not_lt_zero _)⟩
  | n + 1, hn => by
    obtain ⟨hnb, hs⟩ := prt_step ha hb fa fb h n (by omega)
    have hga := ha.2.2
    have hgb := hb.2.2
    have hr := run_same n hs (hga.mono (by omega))
    have h1 := tl_prt a (a.length - n) n (by omega)
    have h2 := tl_prt b (b.length - n) n (by omega)
    rw [h, ← h2, ← hr] at h1
    have h3 := List.append_cancel_left h1
    obtain ⟨k, hk⟩ : ∃ k, a.length - n = k + 1 := ⟨a.length - n - 1, by omega⟩
    rw [hk] at h3
    have hpa := ok_pr (hga n (by omega)) (fa _ (by rw [nd_of (List.getElem?_eq_getElem (show n < a.length by omega))]; exact List.getElem_mem _))
    have elA : ∀ i ∈ (runP a n).1, 1 ≤ nk a i ∧ nk a i ≤ 3 := fun i hi => (runP_elems n (hga.mono (by omega)) i hi).2
    have elB : ∀ i ∈ (runP a n).1, 1 ≤ nk b i ∧ nk b i ≤ 3 := fun i hi => (runP_elems n (hgb.mono hnb) i (by rw [← hr]; exact hi)).2
    -- what closes ahead of the node, in a
    have cut : ∀ {c : List Nd}, Doc c → n < c.length → (runP c n).1 = (runP a n).1 → ∃ u, (∀ i ∈ u, i ∈ (runP a n).1) ∧ (clos c (np c n) (runP a n).1).2 = u.flatMap (ctag c) ∧ (n = 0 → np c n = -1) ∧ (0 < n → ∃ r, (runP a n).1 = u ++ (np c n).toNat :: r ∧ 0 ≤ np c n) := fun {c} hc hnc hrc => by
      rcases Nat.eq_zero_or_pos n with e | e
      · subst e
        exact ⟨[], (by intro i hi; cases hi), by simp [runP, clos], fun _ => (plc_zero (ok_plc (hc.2.2 0 hnc))).2, fun q => absurd q (Nat.lt_irrefl _)⟩
      · obtain ⟨u, r, e1, e2⟩ := run_split hc.2.2 hnc e
        have hp := (hc.2.2.pn n hnc).2 e
        have hpe : np c n = ((np c n).toNat : Int) := by omega
        rw [hrc] at e1
        refine ⟨u, fun i hi => by rw [e1]; exact List.mem_append_left _ hi, ?_, fun q => absurd q (by omega), fun _ => ⟨r, e1, hp.1⟩⟩
        rw [hpe, e1, clos_at c _ _ _ e2]
    obtain ⟨u, hu1, hu2, hu3, hu4⟩ := cut ha (show n < a.length by omega) rfl
    have hlt : n < b.length := by
      rcases Nat.lt_or_ge n b.length with g | g
      · exact g
      · exfalso
        have hz : b.length - n = 0 := by omega
        rw [hz] at h3
        unfold tl at h3
        rw [clos_all, hu2, ← hr] at h3
        have h3 : u.flatMap (ctag a) ++ (itemB (nd a n) ++ tl a k (n + 1)) = (runP a n).1.flatMap (ctag b) ++ [] := by rw [List.append_nil]; exact h3
        have := (closings_inj (item_ne hpa _).2 (by intro Z; simp) u _ (fun i hi => elA i (hu1 i hi)) elB h3).2
        exact (item_ne hpa _).1 this
    obtain ⟨j, hj⟩ : ∃ j, b.length - n = j + 1 := ⟨b.length - n - 1, by omega⟩
    rw [hj] at h3
    obtain ⟨v, hv1, hv2, hv3, hv4⟩ := cut hb hlt (by rw [hr])
    unfold tl at h3
    rw [hu2, ← hr, hv2] at h3
    have hpb := ok_pr (hgb n hlt) (fb _ (by rw [nd_of (List.getElem?_eq_getElem hlt)]; exact List.getElem_mem _))
    obtain ⟨e1, e2⟩ := closings_inj (item_ne hpb _).2 (item_ne hpa _).2 v u (fun i hi => elB i (hv1 i hi)) (fun i hi => elA i (hu1 i hi)) h3.symm
    have hpar : np a n = np b n := by
      rcases Nat.eq_zero_or_pos n with e | e
      · rw [hu3 e, hv3 e]
      · obtain ⟨r, q1, q2⟩ := hu4 e
        obtain ⟨r', q3, q4⟩ := hv4 e
        rw [q1] at q3
        have := List.append_inj_right q3 e1.symm
        have := (List.cons.inj this).1
        omega
    obtain ⟨e3, -⟩ := item_inj hpa hpb (fun q => text_end ha q (by omega)) (fun q => text_end hb q (by omega)) hpar e2.symm
    refine ⟨hlt, fun i hi => ?_⟩
    rcases Nat.lt_or_ge i n with g | g
    · exact hs i g
    · have : i = n := by omega
      subst this; exact e3
theorem prt_inj {a b : List Nd} (ha : Doc a) (hb : Doc b) (fa : ∀ x ∈ a, I64 x.has) (fb : ∀ x ∈ b, I64 x.has) (h : prt a = prt b) : sameL a b = true := by
  obtain ⟨h1, h2⟩ := prt_step ha hb fa fb h a.length (Nat.le_refl _)
  have h3 := (prt_step hb ha fb fa h.symm b.length (Nat.le_refl _)).1
  exact same_yes (by omega) h2
/-- ONE TEXT, ONE DOCUMENT -/
theorem prt_iff {a b : List Nd} (ha : Doc a) (hb : Doc b) (fa : ∀ x ∈ a, I64 x.has) (fb : ∀ x ∈ b, I64 x.has) : sameL a b = decide (prt a = prt b) := by
  by_cases h : prt a = prt b
  · rw [prt_inj ha hb fa fb h, decide_eq_true h]
  · rw [decide_eq_false h]
    cases hs : sameL a b
    · rfl
    · exact absurd (prt_same ha hs) h
end Go.Proofs.YtmlhibcbgdhadaaDoor
