/- Scan under the great budgets: what is told, what is handed out. (FirstX has the same words: never take both.) -/
import Derived.Test.YthlbbinlkmchjaaDoorShown
import Derived.Test.YthlbbinlkmchjaaDoorFits
import Derived.Test.YthlbbinlkmchjaaDoorEncsAll
namespace Go.Proofs.YthlbbinlkmchjaaDoor
open Go.RowKit

/-- the fault of a markup, under great budgets -/
def fl (s : ByteArray) : Int × Int := match (GS s 0 0).2 with
  | none => (0, 0)
  | some x => (x.1, x.2)
def gA (s : ByteArray) : M := { gM with dn := (endS s.size (GS s 0 0).2 : Nat), nw := ((GS s 0 0).1.length : Nat), pk := ((GS s 0 0).1.length : Nat) }
/-- the tokens that are handed out -/
def tks (s : ByteArray) : List Tk := match (GS s 0 0).2 with
  | none => (GS s 0 0).1
  | some _ => []
theorem an_great {s : ByteArray} (hs : s.size ≤ 4294967296) : An s gM [] 0 0 = (gA s, flt (GS s 0 0).1 (GS s 0 0).2) := by
  have h1 := endS_le s
  have h2 := G_few ((rest s 0).length + 1) 0 0 (rest s 0)
  rw [show G ((rest s 0).length + 1) 0 0 (rest s 0) = GS s 0 0 from rfl, rest_length] at h2
  unfold An
  rw [ans_fits s.size (GS s 0 0).2 (GS s 0 0).1 gM [] 0 gM_ok rfl (GS_rise s) (by simp only [gM]; omega) (by simp only [gM]; omega)]
  simp only [gM, gA, Nat.sub_zero, List.nil_append, Int.zero_add, Prod.mk.injEq, and_true]
  congr 1
  first | done | omega
theorem scanG_c {W : World} {mb : Nat} {s : ByteArray} (hm : Blk W mb gM.cells 68) (hs : s.size ≤ 4294967296) (hT : Tc W) (h3 : 3 ≤ mb) :
    Calls Tryd.prog 13 #[.pointer (some ⟨mb, 0, none⟩), .string s] W fun e w' => ∃ tv xs, e = .returned (.tuple #[tv, .agg #[.int .i64 (fl s).1, .int .i64 (fl s).2]]) ∧ TL w' W.heap.size tv xs ∧ Blk w' mb (gA s).cells 68 ∧ Only [mb] W w' ∧ xs.map (·.1) = tks s := by
  refine (scan_c hm gM_ok rfl hs hT h3).mono ?_
  rintro e w' ⟨tv, xs, F, rfl, htl, hb, -, ho, hr⟩
  rw [an_great hs] at hb hr
  refine ⟨tv, xs, ?_, htl, hb, ho, ?_⟩
  · unfold fl
    rcases h : (GS s 0 0).2 with _ | ⟨k, n⟩
    · rw [h] at hr; simp only [flt] at hr; rw [hr.2]
    · rw [h] at hr; simp only [flt] at hr; rw [hr.2.1]
  · unfold tks
    rcases h : (GS s 0 0).2 with _ | ⟨k, n⟩
    · rw [h] at hr; simp only [flt] at hr; exact hr.1
    · rw [h] at hr; simp only [flt] at hr; rw [hr.1]; rfl
theorem gs_some {s : ByteArray} (h : fl s ≠ (0, 0)) : ∃ kk nn, (GS s 0 0).2 = some (kk, nn) ∧ fl s = ((kk : Int), (nn : Int)) ∧ tks s = [] := by
  rcases hg : (GS s 0 0).2 with _ | ⟨kk, nn⟩
  · exact absurd (by unfold fl; rw [hg]) h
  · exact ⟨kk, nn, rfl, by unfold fl; rw [hg], by unfold tks; rw [hg]⟩
theorem gs_none {s : ByteArray} (h : fl s = (0, 0)) : (GS s 0 0).2 = none ∧ tks s = (GS s 0 0).1 := by
  rcases hg : (GS s 0 0).2 with _ | ⟨kk, nn⟩
  · exact ⟨rfl, by unfold tks; rw [hg]⟩
  · exfalso
    unfold fl at h
    rw [hg] at h
    simp only [Prod.mk.injEq] at h
    exact G_kd _ _ _ _ kk nn hg (by omega)
theorem gs_pl {s : ByteArray} (h : (GS s 0 0).2 = none) : Pl (bl s) 0 0 (GS s 0 0).1 :=
  G_pl (bl s) _ 0 0 0 (rest s 0) rfl (Nat.zero_le _) (fun _ => rfl) (fun h => by cases h) (by decide) (gap_nil _ _) h
theorem TL.sl {w : World} {B : Nat} {tv : Value} {xs : List (Tk × Tm)} (h : TL w B tv xs) : ∃ ad cap, tv = .slice ad xs.length cap ∧ Sl w ad xs.length (xs.flatMap tmc) := by
  obtain ⟨ad, cap, e, hs, _⟩ := row_reads h.row
  exact ⟨ad, cap, e, hs⟩
theorem TL.chs {w : World} {B : Nat} {tv : Value} {xs : List (Tk × Tm)} (h : TL w B tv xs) {x : Tk × Tm} (hx : x ∈ xs) : ∃ ad cap, x.2.cv = .slice ad x.1.ch.length cap ∧ Sl w ad x.1.ch.length (x.1.ch.flatMap chc) := by
  obtain ⟨ad, cap, e, hs, _⟩ := row_reads (h.rel x hx).ch
  exact ⟨ad, cap, e, hs⟩
end Go.Proofs.YthlbbinlkmchjaaDoor
namespace Go.Proofs.YthlbbinlkmchjaaDoor
open Go.RowKit

def Et (s : ByteArray) : Nat := endS s.size (GS s 0 0).2
def Ct (s : ByteArray) : Nat := (GS s 0 0).1.length
theorem Et_le (s : ByteArray) : Et s ≤ s.size := endS_le s
theorem Ct_le (s : ByteArray) : Ct s ≤ s.size := by
  have h := G_few ((rest s 0).length + 1) 0 0 (rest s 0)
  rw [show G ((rest s 0).length + 1) 0 0 (rest s 0) = GS s 0 0 from rfl, rest_length] at h
  exact h
/-- a token has no more characters than its bytes -/
theorem part_ch {m p b : Nat} {P : Pz Tk} (h : part m p b = some P) {l : List Nat} {t : Tk} {n : Nat} (hr : P l = .ok (t, n)) : t.ch.length ≤ n := by
  unfold part at h
  split at h
  · cases h
    split at hr
    · unfold tagP at hr
      obtain ⟨_, k, j, h1, h2, rfl⟩ := then_inv hr
      unfold look at h2
      dsimp only at h2
      split at h2
      · obtain ⟨_, k3, j3, _, h3, rfl⟩ := then_inv h2
        obtain ⟨_, k4, j4, _, h4, rfl⟩ := then_inv h3
        obtain ⟨_, k5, j5, _, h5, rfl⟩ := then_inv h4
        cases h5
        exact Nat.zero_le _
      · obtain ⟨_, k3, j3, _, h3, rfl⟩ := then_inv h2
        cases h3
        exact Nat.zero_le _
    · have := (txt_kind hr).2.2.len
      omega
  · split at h
    · cases h
    · split at h
      · cases h
        unfold endP look at hr
        dsimp only at hr
        split at hr
        all_goals
          obtain ⟨_, k, j, _, h2, rfl⟩ := then_inv hr
          cases h2
          exact Nat.zero_le _
      · split at h
        · cases h
          unfold attP at hr
          obtain ⟨_, k, j, _, h2, rfl⟩ := then_inv hr
          obtain ⟨_, k3, j3, _, h3, rfl⟩ := then_inv h2
          obtain ⟨_, k4, j4, _, h4, rfl⟩ := then_inv h3
          obtain ⟨_, k5, j5, _, h5, rfl⟩ := then_inv h4
          cases h5
          exact Nat.zero_le _
        · cases h; cases hr
theorem G_ch : ∀ (f m p : Nat) (l : List Nat), ∀ t ∈ (G f m p l).1, t.ch.length ≤ l.length
  | 0, _, _, _, t, h => by cases h
  | f + 1, m, p, [], t, h => by rcases m with _ | m <;> cases h
  | f + 1, m, p, b :: l, t, h => by
    rw [G_cons] at h
    rcases hP : part m p b with _ | P
    · rw [hP] at h
      have := G_ch f 2 (p + 1) l t h
      simp only [List.length_cons]; omega
    · rw [hP] at h
      simp only at h
      rcases hr : P (b :: l) with ⟨k, n⟩ | ⟨u, n⟩
      · rw [hr, tokR_bad] at h; cases h
      · rw [hr, tokR_ok] at h
        have h1 := part_ch hP hr
        have h2 := ok_le (part_fair hP) hr
        rcases List.mem_cons.1 h with rfl | h
        · simp only; omega
        · have := G_ch f _ _ _ t h
          rw [List.length_drop] at this
          omega
theorem tks_short {s : ByteArray} (hs : s.size ≤ 4294967296) : (tks s).length ≤ 4294967296 ∧ ∀ t ∈ tks s, t.ch.length ≤ 4294967296 := by
  unfold tks
  rcases h : (GS s 0 0).2 with _ | x
  · refine ⟨Nat.le_trans (Ct_le s) hs, fun t ht => ?_⟩
    have := G_ch _ 0 0 (rest s 0) t ht
    rw [rest_length] at this
    omega
  · exact ⟨Nat.zero_le _, fun t ht => by cases ht⟩
theorem mt_ok {a b : Nat} (ha : a ≤ 4294967296) (hb : b ≤ 4294967296) : (M.mk a b 0 0 0 0).Ok := by constructor <;> simp only <;> omega
theorem fit_c {W : World} {mb : Nat} {s : ByteArray} (hm : Blk W mb (M.cells ⟨(Et s : Nat), (Ct s : Nat), 0, 0, 0, 0⟩) 68) (hs : s.size ≤ 4294967296) (hT : Tc W) (h3 : 3 ≤ mb) :
    Calls Tryd.prog 13 #[.pointer (some ⟨mb, 0, none⟩), .string s] W fun e w' => ∃ tv xs, e = .returned (.tuple #[tv, .agg #[.int .i64 (fl s).1, .int .i64 (fl s).2]]) ∧ TL w' W.heap.size tv xs ∧ Blk w' mb (M.cells ⟨(Et s : Nat), (Ct s : Nat), (Et s : Nat), (Ct s : Nat), (Ct s : Nat), 0⟩) 68 ∧ Only [mb] W w' ∧ xs.map (·.1) = tks s := by
  have h1 := Et_le s
  have h2 := Ct_le s
  have hok := mt_ok (a := Et s) (b := Ct s) (by omega) (by omega)
  refine (scan_c hm hok rfl hs hT h3).mono ?_
  rintro e w' ⟨tv, xs, F, rfl, htl, hb, -, ho, hr⟩
  have ha : An s ⟨(Et s : Nat), (Ct s : Nat), 0, 0, 0, 0⟩ [] 0 0 = (⟨(Et s : Nat), (Ct s : Nat), (Et s : Nat), (Ct s : Nat), (Ct s : Nat), 0⟩, flt (GS s 0 0).1 (GS s 0 0).2) := by
    unfold An
    rw [ans_fits s.size (GS s 0 0).2 (GS s 0 0).1 _ [] 0 hok rfl (GS_rise s) (by simp only [Et]; omega) (by simp only [Ct]; omega)]
    simp only [Et, Ct, Nat.sub_zero, List.nil_append, Int.zero_add, Prod.mk.injEq, and_true]
    congr 1
    first | done | omega
  rw [ha] at hb hr
  refine ⟨tv, xs, ?_, htl, hb, ho, ?_⟩
  · unfold fl
    rcases h : (GS s 0 0).2 with _ | ⟨k, n⟩
    · rw [h] at hr; simp only [flt] at hr; rw [hr.2]
    · rw [h] at hr; simp only [flt] at hr; rw [hr.2.1]
  · unfold tks
    rcases h : (GS s 0 0).2 with _ | ⟨k, n⟩
    · rw [h] at hr; simp only [flt] at hr; exact hr.1
    · rw [h] at hr; simp only [flt] at hr; rw [hr.1]; rfl
theorem less_c {W : World} {mb q : Nat} {s : ByteArray} (hq : q < Et s) (hm : Blk W mb (M.cells ⟨(q : Nat), (Ct s : Nat), 0, 0, 0, 0⟩) 68) (hs : s.size ≤ 4294967296) (hT : Tc W) (h3 : 3 ≤ mb) :
    Calls Tryd.prog 13 #[.pointer (some ⟨mb, 0, none⟩), .string s] W fun e w' => e = .returned (.tuple #[nilS, .agg #[.int .i64 20, .int .i64 0]]) ∧ (∃ m' : M, Blk w' mb m'.cells 68 ∧ m'.dn = q) ∧ Only [mb] W w' := by
  have h1 := Et_le s
  have h2 := Ct_le s
  have hok := mt_ok (a := q) (b := Ct s) (by omega) (by omega)
  refine (scan_c hm hok rfl hs hT h3).mono ?_
  rintro e w' ⟨tv, xs, F, rfl, htl, hb, -, ho, hr⟩
  have ha := ans_steps s.size (GS s 0 0).2 (GS s 0 0).1 ⟨(q : Nat), (Ct s : Nat), 0, 0, 0, 0⟩ [] 0 hok rfl (GS_rise s) (by simp only [Et] at hq ⊢; omega) (by simp only [Ct]; omega)
  rw [show An s ⟨(q : Nat), (Ct s : Nat), 0, 0, 0, 0⟩ [] 0 0 = ans s.size ⟨(q : Nat), (Ct s : Nat), 0, 0, 0, 0⟩ [] 0 (GS s 0 0).1 (GS s 0 0).2 from rfl] at hb hr
  rw [ha.1] at hr
  obtain ⟨rfl, rfl, rfl⟩ := hr
  exact ⟨rfl, ⟨_, hb, ha.2⟩, ho⟩
theorem few_c {W : World} {mb q : Nat} {s : ByteArray} (hq : q < Ct s) (hm : Blk W mb (M.cells ⟨(Et s : Nat), (q : Nat), 0, 0, 0, 0⟩) 68) (hs : s.size ≤ 4294967296) (hT : Tc W) (h3 : 3 ≤ mb) :
    Calls Tryd.prog 13 #[.pointer (some ⟨mb, 0, none⟩), .string s] W fun e w' => e = .returned (.tuple #[nilS, .agg #[.int .i64 21, .int .i64 0]]) ∧ (∃ m' : M, Blk w' mb m'.cells 68 ∧ m'.pk = q) ∧ Only [mb] W w' := by
  have h1 := Et_le s
  have h2 := Ct_le s
  have hok := mt_ok (a := Et s) (b := q) (by omega) (by omega)
  refine (scan_c hm hok rfl hs hT h3).mono ?_
  rintro e w' ⟨tv, xs, F, rfl, htl, hb, -, ho, hr⟩
  have ha := ans_cells s.size (GS s 0 0).2 (GS s 0 0).1 ⟨(Et s : Nat), (q : Nat), 0, 0, 0, 0⟩ [] 0 hok rfl (GS_rise s) (by simp only [Et]; omega) (by simp only [Ct] at hq ⊢; omega)
  rw [show An s ⟨(Et s : Nat), (q : Nat), 0, 0, 0, 0⟩ [] 0 0 = ans s.size ⟨(Et s : Nat), (q : Nat), 0, 0, 0, 0⟩ [] 0 (GS s 0 0).1 (GS s 0 0).2 from rfl] at hb hr
  rw [ha.1] at hr
  obtain ⟨rfl, rfl, rfl⟩ := hr
  exact ⟨rfl, ⟨_, hb, ha.2⟩, ho⟩
end Go.Proofs.YthlbbinlkmchjaaDoor
