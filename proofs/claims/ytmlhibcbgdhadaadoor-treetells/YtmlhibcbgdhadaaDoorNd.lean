/- A document's nodes as mathematics: a node's path, which rows of nodes are a document, what is told of them. -/
import Derived.Test.YtmlhibcbgdhadaaDoorEncsAll
import Derived.Laws.BitsLemmas
namespace Go.Proofs.YtmlhibcbgdhadaaDoor
open Go

/-- a node -/
structure Nd where
  kind : Int
  par : Int
  at_ : Int
  fin : Int
  has : Int
  font : ByteArray
  size : Int
  width : Int
  height : Int
  lead : Int
  skip : Int
  tol : Int
  chs : List (Int × Int × Int)
def nd0 : Nd := ⟨0, 0, 0, 0, 0, ⟨#[]⟩, 0, 0, 0, 0, 0, 0, []⟩
def nd (ns : List Nd) (i : Nat) : Nd := ns.getD i nd0
def nk (ns : List Nd) (i : Nat) : Int := (nd ns i).kind
def np (ns : List Nd) (i : Nat) : Int := (nd ns i).par
theorem nd_of {ns : List Nd} {i : Nat} {x : Nd} (h : ns[i]? = some x) : nd ns i = x := by unfold nd; rw [List.getD_eq_getElem?_getD, h]; rfl
theorem nk_of {ns : List Nd} {i : Nat} {x : Nd} (h : ns[i]? = some x) : nk ns i = x.kind := by unfold nk; rw [nd_of h]
theorem np_of {ns : List Nd} {i : Nat} {x : Nd} (h : ns[i]? = some x) : np ns i = x.par := by unfold np; rw [nd_of h]

/-- a node's path -/
def wy (ns : List Nd) : Nat → Nat → List Nat
  | 0, _ => []
  | f + 1, n => (if 0 ≤ np ns n then wy ns f (np ns n).toNat else []) ++ [n]
def way (ns : List Nd) (n : Nat) : List Nat := wy ns (n + 1) n
/-- the Parents of the first m nodes lie ahead of them -/
def PN (ns : List Nd) (m : Nat) : Prop := ∀ k, k < m → (k = 0 → np ns k = -1) ∧ (0 < k → 0 ≤ np ns k ∧ np ns k < k)
theorem PN.mono {ns : List Nd} {m m' : Nat} (h : PN ns m) (hm : m' ≤ m) : PN ns m' := fun k hk => h k (by omega)
theorem wy_any {ns : List Nd} {m : Nat} (h : PN ns m) : ∀ (n f f' : Nat), n < m → n < f → n < f' → wy ns f n = wy ns f' n := by
  intro n
  induction n using Nat.strongRecOn with
  | _ n ih =>
    intro f f' hm hf hf'
    obtain ⟨g, rfl⟩ : ∃ g, f = g + 1 := ⟨f - 1, by omega⟩
    obtain ⟨g', rfl⟩ : ∃ g, f' = g + 1 := ⟨f' - 1, by omega⟩
    unfold wy
    by_cases h0 : 0 ≤ np ns n
    · have hn : 0 < n := by
        rcases Nat.eq_zero_or_pos n with e | e
        · have := (h n hm).1 e; omega
        · exact e
      have hp := (h n hm).2 hn
      rw [if_pos h0, if_pos h0, ih (np ns n).toNat (by omega) g g' (by omega) (by omega) (by omega)]
    · rw [if_neg h0, if_neg h0]
theorem way_zero {ns : List Nd} {m : Nat} (h : PN ns m) (hm : 0 < m) : way ns 0 = [0] := by
  unfold way wy
  rw [if_neg (by have := (h 0 hm).1 rfl; omega)]
  rfl
theorem way_pos {ns : List Nd} {m n : Nat} (h : PN ns m) (hm : n < m) (hn : 0 < n) : way ns n = way ns (np ns n).toNat ++ [n] := by
  have hp := (h n hm).2 hn
  show wy ns (n + 1) n = _
  unfold wy
  rw [if_pos hp.1]
  unfold way
  rw [wy_any h _ n ((np ns n).toNat + 1) (by omega) (by omega) (by omega)]
theorem way_ne {ns : List Nd} (n : Nat) : way ns n ≠ [] := by unfold way wy; simp
theorem way_last {ns : List Nd} (n : Nat) : (way ns n).getLast? = some n := by unfold way wy; simp
theorem way_le {ns : List Nd} {m : Nat} (h : PN ns m) : ∀ n, n < m → ∀ k ∈ way ns n, k ≤ n := by
  intro n
  induction n using Nat.strongRecOn with
  | _ n ih =>
    intro hm k hk
    rcases Nat.eq_zero_or_pos n with e | e
    · subst e; rw [way_zero h hm] at hk; simp at hk; omega
    · rw [way_pos h hm e] at hk
      have hp := (h n hm).2 e
      rcases List.mem_append.1 hk with hk | hk
      · have := ih _ (by omega) (by omega) k hk; omega
      · simp at hk; omega
theorem way_mem {ns : List Nd} (n : Nat) : n ∈ way ns n := by unfold way wy; simp
theorem way_len {ns : List Nd} {m : Nat} (h : PN ns m) : ∀ n, n < m → (way ns n).length ≤ n + 1 := by
  intro n
  induction n using Nat.strongRecOn with
  | _ n ih =>
    intro hm
    rcases Nat.eq_zero_or_pos n with e | e
    · subst e; rw [way_zero h hm]; simp
    · rw [way_pos h hm e, List.length_append]
      have hp := (h n hm).2 e
      have := ih (np ns n).toNat (by omega) (by omega)
      simp; omega
/-- what lies on a path has its own path as that one's beginning -/
theorem way_pre {ns : List Nd} {m : Nat} (h : PN ns m) : ∀ n, n < m → ∀ k ∈ way ns n, way ns k <+: way ns n := by
  intro n
  induction n using Nat.strongRecOn with
  | _ n ih =>
    intro hm k hk
    rcases Nat.eq_zero_or_pos n with e | e
    · subst e; rw [way_zero h hm] at hk; simp at hk; subst hk; exact List.prefix_refl _
    · have hp := (h n hm).2 e
      rw [way_pos h hm e] at hk
      rcases List.mem_append.1 hk with hk | hk
      · have := ih _ (by omega) (by omega) k hk
        rw [way_pos h hm e]
        exact this.trans (List.prefix_append _ _)
      · simp at hk; subst hk; exact List.prefix_refl _
/-- paths rise -/
theorem way_rise {ns : List Nd} {m : Nat} (h : PN ns m) : ∀ n, n < m → (way ns n).Pairwise (· < ·) := by
  intro n
  induction n using Nat.strongRecOn with
  | _ n ih =>
    intro hm
    rcases Nat.eq_zero_or_pos n with e | e
    · subst e; rw [way_zero h hm]; simp
    · have hp := (h n hm).2 e
      rw [way_pos h hm e, List.pairwise_append]
      refine ⟨ih _ (by omega) (by omega), by simp, fun a ha b hb => ?_⟩
      have := way_le h _ (by omega) a ha
      simp at hb; omega
/-- where a node stands on a path -/
theorem way_at {ns : List Nd} {m n k : Nat} (h : PN ns m) (hm : n < m) (hk : k ∈ way ns n) : (way ns n)[(way ns k).length - 1]? = some k := by
  obtain ⟨t, ht⟩ := way_pre h n hm k hk
  have h1 : 0 < (way ns k).length := List.length_pos_iff.2 (way_ne k)
  rw [← ht, List.getElem?_append_left (by omega), ← List.getLast?_eq_getElem?]
  exact way_last k

/-! ### which nodes may be -/
def lng (b : Bool) (v lo hi : Int) : Bool := if b then decide (lo ≤ v ∧ v ≤ hi) else decide (v = 0)
def nmB (c : Nat) : Bool := decide ((97 ≤ c ∧ c ≤ 122) ∨ (65 ≤ c ∧ c ≤ 90) ∨ (48 ≤ c ∧ c ≤ 57) ∨ c = 45 ∨ c = 95)
def nam (s : ByteArray) : Bool := decide (1 ≤ s.size ∧ s.size ≤ 32) && (bl s).all nmB
def may (k : Int) : Int := if k = 1 then 127 else if k = 2 then 115 else if k = 3 then 3 else 0
/-- it has that one -/
def hb (x : Nd) (m : Int) : Bool := bits .and .i64 x.has m != 0
def atr (x : Nd) : Bool := bits .andNot .i64 x.has (may x.kind) == 0 && (x.kind != 1 || bits .and .i64 x.has 12 == 12) && (if hb x 1 then nam x.font else decide (x.font.size = 0)) && lng (hb x 2) x.size 1 67108864 && lng (hb x 4) x.width 1 536870912
  && lng (hb x 8) x.height 1 536870912 && lng (hb x 16) x.lead 0 536870912 && lng (hb x 32) x.skip 0 536870912 && lng (hb x 64) x.tol 0 10000
/-- what bears what -/
def brs (k p : Int) : Bool := (k == 2 && p == 1) || ((k == 3 || k == 4 || k == 5) && (p == 2 || p == 3))
def plc (ns : List Nd) (n : Nat) : Bool :=
  if n = 0 then nk ns 0 == 1 && np ns 0 == -1
  else decide (0 ≤ np ns n) && decide ((np ns n).toNat ∈ way ns (n - 1)) && brs (nk ns n) (nk ns (np ns n).toNat) && (nk ns n == 4 || decide ((way ns (np ns n).toNat).length < 32))
def say (ns : List Nd) (n : Nat) : Bool :=
  if nk ns n = 4 then !(nd ns n).chs.isEmpty && !(nk ns (n - 1) == 4 && np ns (n - 1) == np ns n) && (textM (nd ns n).chs).isSome else (nd ns n).chs.isEmpty
def ok (ns : List Nd) (n : Nat) : Bool := plc ns n && atr (nd ns n) && say ns n
/-- the first k nodes may be -/
def Gd (ns : List Nd) (k : Nat) : Prop := ∀ i, i < k → ok ns i = true
def chkN (ns : List Nd) : Int × Int :=
  if 8192 < ns.length then (0, 91) else if ns.length = 0 then (0, 90) else match (List.range ns.length).find? (fun n => !ok ns n) with
    | some n => ((n : Int), 90)
    | none => (0, 0)
theorem Gd.mono {ns : List Nd} {k k' : Nat} (h : Gd ns k) (hk : k' ≤ k) : Gd ns k' := fun i hi => h i (by omega)
theorem Gd.succ {ns : List Nd} {k : Nat} (h : Gd ns k) (hk : ok ns k = true) : Gd ns (k + 1) := fun i hi => by
  rcases Nat.lt_or_ge i k with g | g
  · exact h i g
  · have : i = k := by omega
    subst this; exact hk
theorem ok_plc {ns : List Nd} {n : Nat} (h : ok ns n = true) : plc ns n = true := by unfold ok at h; simp at h; exact h.1.1
theorem plc_kind {ns : List Nd} {n : Nat} (h : plc ns n = true) : 1 ≤ nk ns n ∧ nk ns n ≤ 5 := by
  unfold plc at h
  split at h
  · next e => subst e; simp at h; omega
  · simp [brs] at h; omega
theorem plc_zero {ns : List Nd} (h : plc ns 0 = true) : nk ns 0 = 1 ∧ np ns 0 = -1 := by
  unfold plc at h; rw [if_pos rfl] at h; simpa using h
theorem plc_pos {ns : List Nd} {n : Nat} (h : plc ns n = true) (hn : 0 < n) :
    0 ≤ np ns n ∧ (np ns n).toNat ∈ way ns (n - 1) ∧ brs (nk ns n) (nk ns (np ns n).toNat) = true ∧ (nk ns n = 4 ∨ (way ns (np ns n).toNat).length < 32) := by
  unfold plc at h; rw [if_neg (by omega)] at h; simp at h; exact ⟨h.1.1.1, h.1.1.2, h.1.2, h.2⟩
theorem Gd.pn {ns : List Nd} : ∀ {k : Nat}, Gd ns k → PN ns k
  | 0, _ => fun i hi => absurd hi (Nat.not_lt_zero _)
  | k + 1, h => fun i hi => by
    have h1 : PN ns k := Gd.pn (h.mono (Nat.le_succ _))
    rcases Nat.lt_or_ge i k with g | g
    · exact h1 i g
    · have : i = k := by omega
      subst this
      have hp := ok_plc (h i hi)
      refine ⟨fun e => by subst e; exact (plc_zero hp).2, fun h0 => ?_⟩
      obtain ⟨h2, h3, -, -⟩ := plc_pos hp h0
      have := way_le h1 (i - 1) (by omega) _ h3
      omega
theorem brs_elem {k p : Int} (h : brs k p = true) : p = 1 ∨ p = 2 ∨ p = 3 := by unfold brs at h; simp at h; omega
theorem brs_kind {k p : Int} (h : brs k p = true) : k = 2 ∨ k = 3 ∨ k = 4 ∨ k = 5 := by unfold brs at h; simp at h; omega
/-- on a path none but the last one is a text or a br -/
theorem way_elems {ns : List Nd} {m : Nat} (h : Gd ns m) : ∀ n, n < m → ∀ k ∈ way ns n, k = n ∨ (nk ns k = 1 ∨ nk ns k = 2 ∨ nk ns k = 3) := by
  intro n
  induction n using Nat.strongRecOn with
  | _ n ih =>
    intro hm k hk
    rcases Nat.eq_zero_or_pos n with e | e
    · subst e; rw [way_zero h.pn hm] at hk; simp at hk; exact .inl hk
    · rw [way_pos h.pn hm e] at hk
      have hp := (h.pn n hm).2 e
      rcases List.mem_append.1 hk with hk | hk
      · obtain ⟨-, -, h3, -⟩ := plc_pos (ok_plc (h n hm)) e
        rcases ih (np ns n).toNat (by omega) (by omega) k hk with e2 | e2
        · subst e2; exact .inr (brs_elem h3)
        · exact .inr e2
      · simp at hk; exact .inl hk
/-- no path has above 32 nodes that are no texts -/
theorem way_deep {ns : List Nd} {m n : Nat} (h : Gd ns m) (hm : n < m) (hk : nk ns n ≠ 4) : (way ns n).length ≤ 32 := by
  rcases Nat.eq_zero_or_pos n with e | e
  · subst e; rw [way_zero h.pn hm]; simp
  · rw [way_pos h.pn hm e, List.length_append]
    obtain ⟨-, -, -, h3⟩ := plc_pos (ok_plc (h n hm)) e
    rcases h3 with h3 | h3
    · exact absurd h3 hk
    · simp; omega

/-! ### the same, as the reference asks -/
def plcR (ns : List Nd) (n : Nat) : Bool :=
  if n = 0 then nk ns 0 == 1 && np ns 0 == -1 else decide (0 ≤ np ns n ∧ np ns n < n) && brs (nk ns n) (nk ns (np ns n).toNat) && decide ((np ns n).toNat ∈ way ns (n - 1))
def deepN (ns : List Nd) (n : Nat) : Nat := ((way ns n).filter fun k => nk ns k != 4).length
theorem plcR_deep {ns : List Nd} {n : Nat} (h : Gd ns n) : (plcR ns n && decide (deepN ns n ≤ 32)) = plc ns n := by
  rcases Nat.eq_zero_or_pos n with e | e
  · subst e
    unfold plcR plc
    rw [if_pos rfl, if_pos rfl]
    rw [Bool.eq_iff_iff]
    simp only [Bool.and_eq_true, beq_iff_eq, decide_eq_true_eq]
    refine ⟨fun q => q.1, fun q => ⟨q, ?_⟩⟩
    have hp : PN ns 1 := fun k hk => ⟨fun e => by subst e; exact q.2, fun h0 => by omega⟩
    unfold deepN
    rw [way_zero hp (by omega)]
    exact Nat.le_trans (List.length_filter_le _ _) (by simp)
  · rw [Bool.eq_iff_iff]
    unfold plcR plc
    rw [if_neg (by omega), if_neg (by omega)]
    simp only [Bool.and_eq_true, decide_eq_true_eq, Bool.or_eq_true, beq_iff_eq]
    have key : ∀ (h0 : 0 ≤ np ns n) (hw : (np ns n).toNat ∈ way ns (n - 1)) (hbr : brs (nk ns n) (nk ns (np ns n).toNat) = true), (np ns n < n) ∧ (deepN ns n ≤ 32 ↔ (nk ns n = 4 ∨ (way ns (np ns n).toNat).length < 32)) := by
      intro h0 hw hbr
      have hle := way_le h.pn (n - 1) (by omega) _ hw
      have hlt : np ns n < n := by omega
      have hp : PN ns (n + 1) := fun k hk => by
        rcases Nat.lt_or_ge k n with g | g
        · exact h.pn k g
        · have : k = n := by omega
          subst this; exact ⟨fun e => by omega, fun _ => ⟨h0, hlt⟩⟩
      refine ⟨hlt, ?_⟩
      have hpar := brs_elem hbr
      have hall : (way ns (np ns n).toNat).filter (fun k => nk ns k != 4) = way ns (np ns n).toNat := by
        rw [List.filter_eq_self]
        intro k hk
        rcases way_elems h (np ns n).toNat (by omega) k hk with e2 | e2
        · subst e2; simp; omega
        · simp; omega
      unfold deepN
      rw [way_pos hp (by omega) e, List.filter_append, hall, List.length_append]
      by_cases h4 : nk ns n = 4
      · have := way_deep (n := (np ns n).toNat) h (by omega) (by omega)
        simp [h4]; omega
      · simp [h4]; omega
    constructor
    · rintro ⟨⟨⟨⟨h1, h2⟩, h3⟩, h4⟩, h5⟩
      exact ⟨⟨⟨h1, h4⟩, h3⟩, (key h1 h4 h3).2.1 h5⟩
    · rintro ⟨⟨⟨h1, h4⟩, h3⟩, h5⟩
      exact ⟨⟨⟨⟨h1, (key h1 h4 h3).1⟩, h3⟩, h4⟩, (key h1 h4 h3).2.2 h5⟩
/-- the reference's search for the sibling ahead -/
def sib (ns : List Nd) (n : Nat) : Option Nat := ((List.range n).reverse).find? fun k => np ns k == np ns n
theorem chs_say {ns : List Nd} {n : Nat} (h : Gd ns n) (hp : plc ns n = true) (h4 : nk ns n = 4) :
    (nk ns (n - 1) = 4 ∧ np ns (n - 1) = np ns n) ↔ ∃ k, k < n ∧ np ns n < k ∧ np ns k = np ns n ∧ nk ns k = 4 ∧ ∀ j, k < j → j < n → np ns j ≠ np ns n := by
  have hn : 0 < n := by
    rcases Nat.eq_zero_or_pos n with e | e
    · subst e; have := (plc_zero hp).1; omega
    · exact e
  obtain ⟨h0, hw, hbr, -⟩ := plc_pos hp hn
  have hle := way_le h.pn (n - 1) (by omega) _ hw
  constructor
  · rintro ⟨q1, q2⟩
    refine ⟨n - 1, by omega, ?_, q2, q1, fun j h1 h2 => by omega⟩
    rcases Nat.eq_zero_or_pos (n - 1) with e | e
    · rw [e] at q2; have := (plc_zero (ok_plc (h 0 hn))).2; omega
    · have := (h.pn (n - 1) (by omega)).2 e; omega
  · rintro ⟨k, hk, hpk, e1, e2, hno⟩
    rcases Nat.lt_or_ge k (n - 1) with g | g
    · exfalso
      -- behind a text whose sibling doesn't follow at once the path has left the parent
      have hk0 : 0 < k := by omega
      have out : ∀ j, k < j → j < n → (np ns n).toNat ∉ way ns j := by
        intro j
        induction j with
        | zero => intro h1; omega
        | succ j ih =>
          intro h1 h2 hm
          have hpj := (h.pn (j + 1) h2).2 (by omega)
          rw [way_pos h.pn h2 (by omega)] at hm
          obtain ⟨-, hwj, hbj, -⟩ := plc_pos (ok_plc (h (j + 1) h2)) (by omega)
          simp only [Nat.add_sub_cancel] at hwj
          have hne := hno (j + 1) h1 h2
          rcases List.mem_append.1 hm with hm | hm
          · have hpre := way_pre h.pn j (by omega) _ hwj
            have hin : (np ns n).toNat ∈ way ns j := hpre.subset hm
            rcases Nat.lt_or_ge k j with g2 | g2
            · exact ih g2 (by omega) hin
            · have : j = k := by omega
              subst this
              -- j is the text: its path is its parent's and itself
              rw [way_pos h.pn hk (by omega)] at hwj
              rcases List.mem_append.1 hwj with hwj | hwj
              · rw [e1] at hwj
                have a1 := way_le h.pn (np ns n).toNat (by omega) _ hwj
                have a2 := way_le h.pn (np ns (j + 1)).toNat (by omega) _ hm
                omega
              · simp at hwj
                have := brs_elem hbj
                rw [show (np ns (j + 1)).toNat = j by omega] at this
                omega
          · simp at hm; omega
      exact out (n - 1) (by omega) (by omega) hw
    · have : k = n - 1 := by omega
      subst this
      exact ⟨e2, e1⟩

/-! ### what is written -/
def nameB (k : Int) : List Nat := if k = 1 then [100, 111, 99] else if k = 2 then [112] else [115]
def ctag (ns : List Nd) (i : Nat) : List Nat := [60, 47] ++ nameB (nk ns i) ++ [62]
/-- the open ones that end ahead of what stands in p; the last one opened comes first -/
def clos (ns : List Nd) (p : Int) : List Nat → List Nat × List Nat
  | [] => ([], [])
  | t :: r => if (t : Int) = p then (t :: r, []) else ((clos ns p r).1, ctag ns t ++ (clos ns p r).2)
end Go.Proofs.YtmlhibcbgdhadaaDoor
