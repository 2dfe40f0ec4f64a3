/- The reference's Check; what Read tells of the beginnings of a character. -/
import Derived.Test.YthlbbinlkmchjaaDoorRdOne
import Derived.Test.YthlbbinlkmchjaaDoorRead
import Derived.Deep.RegionHeld3
import Derived.Test.YthlbbinlkmchjaaDoorTok
import Derived.Test.YthlbbinlkmchjaaDoorChs
namespace Go.Proofs.YthlbbinlkmchjaaDoor
open Go.RowKit

set_option maxRecDepth 100000 in
set_option maxHeartbeats 4000000 in
theorem checkR_c (s : ByteArray) (w : World) (hs : s.size ≤ 1099511627776) : Calls Tryd.prog 94 #[.string s] w fun e w' => e = .returned (told (chk (bl s))) ∧ Below w.heap.size w w' := by
  have HR := hid (read_any s (w.alloc (.cells #[.int .i64 0, .int .i64 0] 35)) hs)
  rcases hc : chk (bl s) with _ | A
  all_goals
    rw [hc] at HR
    simp only [atOf, isBad] at HR
    clear hc
    go_enter Tryd.func94, Tryd.ntmps94
    go_wp2_with fail
    refine HR.out.mono ?_
    rintro e w1 ⟨v, rfl, -, hb1⟩
    rw [World.size_alloc] at hb1
    have HB1 : Hid (Below (w.heap.size + 1) (w.alloc (.cells #[.int .i64 0, .int .i64 0] 35)) w1) := hid hb1
    have hbk : Blk w1 w.heap.size [.int .i64 0, .int .i64 0] 35 := (hb1.block _ (by omega)).trans (Blk.new w #[.int .i64 0, .int .i64 0] 35 rfl)
    have HK : Hid (Blk w1 w.heap.size [.int .i64 0, .int .i64 0] 35) := hid hbk
    have hc0 : w1.cell? ⟨w.heap.size, 0, none⟩ = some (.int .i64 0) := hbk.cell 0
    have hc1 : w1.cell? ⟨w.heap.size, 1, none⟩ = some (.int .i64 0) := hbk.cell 1
    have hf0 := hbk.froz 0
    have hf1 := hbk.froz 1
    clear hb1 hbk HR
    go_wp2_with fail
  · have hbk2 := (HK.out.set 0 (.int .i64 0)).set 1 (.int .i64 0)
    have hd0 := hbk2.cell 0
    have hd1 := hbk2.cell 1
    simp only [List.set_cons_zero, List.set_cons_succ, List.getElem?_cons_zero, List.getElem?_cons_succ] at hd0 hd1
    refine bodyPost_ret (v := .agg #[.int .i64 0, .int .i64 0]) ?_ rfl ⟨rfl, ?_⟩
    · simp [results, Tryd.f94, go_sem, hd0, hd1]
    · exact ((((Below.refl _ w).alloc (Nat.le_refl _) _).trans (HB1.out.mono (by omega))).setCell (p := ⟨w.heap.size, 0, none⟩) (Nat.le_refl _) _).setCell (p := ⟨w.heap.size, 1, none⟩) (Nat.le_refl _) _
  · have hbk2 := (HK.out.set 0 (.int .i64 40)).set 1 (.int .i64 A)
    have hd0 := hbk2.cell 0
    have hd1 := hbk2.cell 1
    simp only [List.set_cons_zero, List.set_cons_succ, List.getElem?_cons_zero, List.getElem?_cons_succ] at hd0 hd1
    refine bodyPost_ret (v := .agg #[.int .i64 40, .int .i64 A]) ?_ rfl ⟨rfl, ?_⟩
    · simp [results, Tryd.f94, go_sem, hd0, hd1]
    · exact ((((Below.refl _ w).alloc (Nat.le_refl _) _).trans (HB1.out.mono (by omega))).setCell (p := ⟨w.heap.size, 0, none⟩) (Nat.le_refl _) _).setCell (p := ⟨w.heap.size, 1, none⟩) (Nat.le_refl _) _

/-- a beginning that can't stand -/
theorem rd_bad {l : List Nat} {a : Nat} (h : bad l = some a) (hl : l ≠ []) : chk l = some a ∧ rs l = [] :=
  ⟨chk_bad h hl, rl_none (by rw [h]; simp) _ _⟩
/-- a character -/
theorem rd_good {l : List Nat} (h : bad l = none) : chk (l.take (wd l)) = none ∧ rs (l.take (wd l)) = [(0, rune l)] := by
  obtain ⟨g1, g2, g3⟩ := good_pre h (m := l.take (wd l)) (by rw [List.take_take, Nat.min_self])
  obtain ⟨hn1, hn2⟩ := bad_none h
  have hlen : (l.take (wd l)).length = wd l := by rw [List.length_take]; omega
  obtain ⟨k, hk⟩ : ∃ k, wd l = k + 1 := ⟨wd l - 1, by omega⟩
  have hd : (l.take (wd l)).drop (wd l) = [] := by rw [List.drop_eq_nil_iff]; omega
  have hnil : ∀ j i, rl j i [] = [] := fun j i => rl_none (by rw [bad_nil]; simp) _ _
  have hpn : ∀ j, pos j [] = 0 := fun j => pos_none (by rw [bad_nil]; simp) _
  generalize l.take (wd l) = t at *
  constructor
  · rw [chk_none]
    unfold en
    rw [hlen, hk, pos_good g1, g3, hd, hpn, hk]
  · unfold rs
    rw [hlen, hk, rl_good g1, g3, g2, hd, hnil]
/-- an answer that looks at nothing -/
def kP {α : Type} (r : R α) : Pz α := fun _ => r
theorem fo_kP_yes {α : Type} {s : ByteArray} {m : M} (hw : m.why = 0) {p : Nat} (hp : p < s.size) (hs : m.stepOk 1 = true) (r : R α) : fo s m p (kP (R.up 1 r)) = fo s (m.step 1) (p + 1) (kP r) := by
  rw [← fo_skip_yes hw hp hs (fun _ _ => kP r)]
  refine fo_congr ?_
  show R.up 1 r = thenR (skip (rest s p)) _
  rw [skip_rest hp]
  rfl
theorem fo_kP_no {α : Type} {s : ByteArray} {m : M} (hw : m.why = 0) {p : Nat} (hp : p < s.size) (hs : m.stepOk 1 = false) (r : R α) : fo s m p (kP (R.up 1 r)) = (m.step 1, .error (20, 0)) := by
  rw [← fo_skip_no hw hp hs (fun _ _ => kP r)]
  refine fo_congr ?_
  show R.up 1 r = thenR (skip (rest s p)) _
  rw [skip_rest hp]
  rfl
/-- what is left of a character of which k bytes are taken: d: it stands, with so many bytes; else the byte at d can't stand -/
def plK (g : Bool) (x d k : Nat) : R Nat := if g then .ok (x, d - k) else .error (40, d - k)
theorem plK_up {g : Bool} {x d k : Nat} (h : k < d) : plK g x d k = R.up 1 (plK g x d (k + 1)) := by
  cases g
  · show Except.error (40, d - k) = Except.error (40, 1 + (d - (k + 1))) 
    congr 2
    omega
  · show Except.ok (x, d - k) = Except.ok (x, 1 + (d - (k + 1)))
    congr 2
    omega
theorem plain_plK (l : List Nat) : ∃ g x d, plainP l = plK g x d 0 ∧ (g = true → bad l = none ∧ x = rune l ∧ d = wd l) ∧ (g = false → bad l = some d) := by
  unfold plainP
  rcases hb : bad l with _ | e
  · exact ⟨true, rune l, wd l, rfl, fun _ => ⟨rfl, rfl, rfl⟩, fun h => by cases h⟩
  · exact ⟨false, 0, e, rfl, fun h => (by cases h), fun _ => rfl⟩
/-- what Read tells of the first k + 1 bytes -/
theorem plain_read {l : List Nat} {g : Bool} {x d k : Nat} (h1 : g = true → bad l = none ∧ x = rune l ∧ d = wd l) (h2 : g = false → bad l = some d) (hk : k < l.length) (hd : if g then k < d else k ≤ d) :
    (g = true ∧ k + 1 = d ∧ chk (l.take (k + 1)) = none ∧ rs (l.take (k + 1)) = [(0, x)]) ∨
    (k + 1 ≤ d ∧ (g = true → k + 1 < d) ∧ chk (l.take (k + 1)) = some (k + 1) ∧ rs (l.take (k + 1)) = []) ∨
    (g = false ∧ k = d ∧ chk (l.take (k + 1)) = some k ∧ rs (l.take (k + 1)) = []) := by
  have hne : l.take (k + 1) ≠ [] := by
    intro e
    have := congrArg List.length e
    rw [List.length_take] at this
    simp only [List.length_nil] at this
    omega
  cases g
  · have hb := h2 rfl
    simp only [Bool.false_eq_true, if_false] at hd
    by_cases he : k = d
    · refine .inr (.inr ⟨rfl, he, rd_bad ?_ hne⟩)
      subst he
      exact bad_pre hb hk (by rw [List.take_take, Nat.min_self])
    · exact .inr (.inl ⟨by omega, fun h => (by cases h), rd_bad (bad_cut hb (by omega)) hne⟩)
  · obtain ⟨hb, hx, hdd⟩ := h1 rfl
    simp only [if_true] at hd
    by_cases he : k + 1 = d
    · refine .inl ⟨rfl, he, ?_⟩
      rw [he, hdd, hx]
      exact rd_good hb
    · exact .inr (.inl ⟨by omega, fun _ => by omega, rd_bad (good_cut hb (by omega)) hne⟩)
end Go.Proofs.YthlbbinlkmchjaaDoor
namespace Go.Proofs.YthlbbinlkmchjaaDoor
open Go.RowKit

def PRc (w' : World) (xb mb : Nat) (s : ByteArray) (p : Nat) (v : Value) (o : O Nat) (e : Ending) : Prop := match o.2 with
  | .ok x => e = .returned (chV x.1 p x.2) ∧ RU w' xb mb s x.2 v o.1
  | .error F => (∃ i a b : Int, e = .returned (chV i a b)) ∧ RX w' xb mb s o.1 F

set_option maxRecDepth 100000 in
set_option maxHeartbeats 16000000 in
theorem charE_c {w : World} {xb mb : Nat} {s : ByteArray} {p : Nat} {v : Value} {m : M} (h : RU w xb mb s p v m) (hh : (rest s p).head? = some 38) :
    Calls Tryd.prog 73 #[.pointer (some ⟨xb, 0, none⟩)] w fun e w' => PRc w' xb mb s p v (fo s m p chrP) e ∧ Only [xb, mb] w w' := by
  have ho : fo s m p chrP = fo s m p entP := by
    unfold chrP
    rw [fo_look, hh, if_pos rfl]
  rw [ho]
  have HU := hid h
  have hlt := h.rs.c.lt
  have hltm := h.rs.mt.lt
  have hnxb : ¬ xb = w.heap.size := by omega
  have hnxb2 : ¬ w.heap.size = xb := by omega
  have c2 : w.cell? ⟨xb, 2, none⟩ = some (.int .i64 p) := h.rs.c.cell 2
  have HI := hid (fun W (h : RU W xb mb s p v m) => is_c h.rs 38 (by decide))
  simp only [Bool.not_false, Bool.true_and] at HI
  rw [decide_eq_true hh] at HI
  have HE := hid (fun W (h : RU W xb mb s p v m) => entityR_c h hh)
  clear h hh ho
  rcases hw : fo s m p entP with ⟨m1, F | ⟨x, q⟩⟩
  · rw [hw] at HE
    clear hw
    go_enter Tryd.func73, Tryd.ntmps73
    go_wp2_with fail
    refine (HI.out _ (HU.out.still ((Only.refl [] w).alloc _))).mono ?_
    rintro e w1 ⟨rfl, n, rfl⟩
    go_wp2_with fail
    refine (HE.out _ ((HU.out.still ((Only.refl [] w).alloc _)).still (only_drewN _ n))).mono ?_
    rintro e w2 ⟨⟨⟨i, rfl⟩, hx⟩, hol⟩
    have hB0 := ((Blk.new w #[.int .i64 0, .int .i64 0, .int .i64 0] 50 rfl).drewN n)
    have hB := hid (hol.blk hB0 (by simp; omega))
    obtain ⟨p', v', hcb⟩ := hx
    have d2 : w2.cell? ⟨xb, 2, none⟩ = some (.int .i64 p') := hcb.c.cell 2
    have e0 := hB.out.cell 0
    have e1 := hB.out.cell 1
    have e2 := hB.out.cell 2
    have f0 := hB.out.froz 0
    have f1 := hB.out.froz 1
    have f2 := hB.out.froz 2
    simp only [List.getElem?_cons_zero, List.getElem?_cons_succ] at e0 e1 e2
    have HOL := hid hol
    have HCB := hid hcb
    clear hol hB0 hcb
    go_wp2_with fail
    have hB2 := ((hB.out.set 0 (.int .i64 i)).set 1 (.int .i64 p)).set 2 (.int .i64 p')
    have g0 := hB2.cell 0
    have g1 := hB2.cell 1
    have g2 := hB2.cell 2
    simp only [List.set_cons_zero, List.set_cons_succ, List.getElem?_cons_zero, List.getElem?_cons_succ] at g0 g1 g2
    refine bodyPost_ret (v := chV i p p') ?_ rfl ⟨⟨⟨_, _, _, rfl⟩, p', v', ?_⟩, ?_⟩
    · simp [results, Tryd.f73, go_sem, g0, g1, g2, chV]
    · exact ⟨((HCB.out.c.other _ _ hnxb).other _ _ hnxb).other _ _ hnxb, ((HCB.out.mt.other _ _ (by simp; omega)).other _ _ (by simp; omega)).other _ _ (by simp; omega), HCB.out.ok, HCB.out.le, HCB.out.sz⟩
    · exact ((((Only.behind (((Only.refl [] w).alloc _).drewN n) HOL.out).set (.inr (Nat.le_refl _)) _).set (.inr (Nat.le_refl _)) _).set (.inr (Nat.le_refl _)) _)
  · rw [hw] at HE
    clear hw
    go_enter Tryd.func73, Tryd.ntmps73
    go_wp2_with fail
    refine (HI.out _ (HU.out.still ((Only.refl [] w).alloc _))).mono ?_
    rintro e w1 ⟨rfl, n, rfl⟩
    go_wp2_with fail
    refine (HE.out _ ((HU.out.still ((Only.refl [] w).alloc _)).still (only_drewN _ n))).mono ?_
    rintro e w2 ⟨⟨rfl, hx⟩, hol⟩
    have hB0 := ((Blk.new w #[.int .i64 0, .int .i64 0, .int .i64 0] 50 rfl).drewN n)
    have hB := hid (hol.blk hB0 (by simp; omega))
    have d2 : w2.cell? ⟨xb, 2, none⟩ = some (.int .i64 q) := hx.rs.c.cell 2
    have e0 := hB.out.cell 0
    have e1 := hB.out.cell 1
    have e2 := hB.out.cell 2
    have f0 := hB.out.froz 0
    have f1 := hB.out.froz 1
    have f2 := hB.out.froz 2
    simp only [List.getElem?_cons_zero, List.getElem?_cons_succ] at e0 e1 e2
    have HX := hid hx
    have HOL := hid hol
    clear hx hol hB0
    go_wp2_with fail
    have hB2 := ((hB.out.set 0 (.int .i64 x)).set 1 (.int .i64 p)).set 2 (.int .i64 q)
    have g0 := hB2.cell 0
    have g1 := hB2.cell 1
    have g2 := hB2.cell 2
    simp only [List.set_cons_zero, List.set_cons_succ, List.getElem?_cons_zero, List.getElem?_cons_succ] at g0 g1 g2
    refine bodyPost_ret (v := chV x p q) ?_ rfl ⟨⟨rfl, ?_⟩, ?_⟩
    · simp [results, Tryd.f73, go_sem, g0, g1, g2, chV]
    · exact ⟨⟨((HX.out.rs.c.other _ _ hnxb).other _ _ hnxb).other _ _ hnxb, ((HX.out.rs.mt.other _ _ (by simp; omega)).other _ _ (by simp; omega)).other _ _ (by simp; omega), HX.out.rs.ok, HX.out.rs.le, HX.out.rs.sz⟩, HX.out.why⟩
    · exact ((((Only.behind (((Only.refl [] w).alloc _).drewN n) HOL.out).set (.inr (Nat.le_refl _)) _).set (.inr (Nat.le_refl _)) _).set (.inr (Nat.le_refl _)) _)

def PlRel (w : World) (xb mb : Nat) (s : ByteArray) (p : Nat) (v : Value) (g : Bool) (x d : Nat) (o : O Nat) (vn : Value) (wr : World) : Prop :=
  ∃ (q : Nat) (m' : M), vn = .int .i64 ((q : Int) + 1) ∧ p ≤ q ∧ (if g then q - p < d else q - p ≤ d) ∧ RU wr xb mb s q v m' ∧ fo s m' q (kP (plK g x d (q - p))) = o ∧ Blk wr w.heap.size [.int .i64 0, .int .i64 0, .int .i64 0] 50 ∧ Only [xb, mb] w wr
theorem PlRel.mk {w : World} {xb mb : Nat} {s : ByteArray} {p : Nat} {v : Value} {g : Bool} {x d : Nat} {o : O Nat} {vn : Value} {wr : World} (q : Nat) (m' : M) (h : vn = .int .i64 ((q : Int) + 1) ∧ p ≤ q ∧ (if g then q - p < d else q - p ≤ d) ∧ RU wr xb mb s q v m' ∧ fo s m' q (kP (plK g x d (q - p))) = o ∧ Blk wr w.heap.size [.int .i64 0, .int .i64 0, .int .i64 0] 50 ∧ Only [xb, mb] w wr) : PlRel w xb mb s p v g x d o vn wr := ⟨q, m', h⟩
theorem PlRel.at {w : World} {xb mb : Nat} {s : ByteArray} {p : Nat} {v : Value} {g : Bool} {x d : Nat} {o : O Nat} {vn : Value} {wr : World} (h : PlRel w xb mb s p v g x d o vn wr) : ∃ (q : Nat) (m' : M), vn = .int .i64 ((q : Int) + 1) ∧ p ≤ q ∧ (if g then q - p < d else q - p ≤ d) ∧ RU wr xb mb s q v m' ∧ fo s m' q (kP (plK g x d (q - p))) = o ∧ Blk wr w.heap.size [.int .i64 0, .int .i64 0, .int .i64 0] 50 ∧ Only [xb, mb] w wr := h
set_option maxRecDepth 100000 in
set_option maxHeartbeats 16000000 in
theorem charP_c {w : World} {xb mb : Nat} {s : ByteArray} {p : Nat} {v : Value} {m : M} (h : RU w xb mb s p v m) (hp : p < s.size) (hh : ¬ (rest s p).head? = some 38) :
    Calls Tryd.prog 73 #[.pointer (some ⟨xb, 0, none⟩)] w fun e w' => PRc w' xb mb s p v (fo s m p chrP) e ∧ Only [xb, mb] w w' := by
  obtain ⟨g, x, d, hg, h1, h2⟩ := plain_plK (rest s p)
  obtain ⟨o, ho⟩ : ∃ o : O Nat, fo s m p chrP = o := ⟨_, rfl⟩
  rw [ho]
  have hoo : fo s m p (kP (plK g x d 0)) = o := by
    rw [← ho, ← hg]
    unfold chrP
    rw [fo_look, if_neg hh]
    exact fo_congr rfl
  have hd0 : if g then 0 < d else 0 ≤ d := by
    cases g
    · exact Nat.zero_le _
    · obtain ⟨a, -, b⟩ := h1 rfl
      have := (bad_none a).1
      show 0 < d
      omega
  have hdl : d ≤ s.size - p ∧ (if g then d ≤ 4 else d ≤ 3) := by
    rw [← rest_length]
    cases g
    · have := bad_le (h2 rfl)
      exact ⟨this.2, this.1⟩
    · obtain ⟨a, -, b⟩ := h1 rfl
      have := (bad_none a).2
      rw [b]
      exact ⟨this, wide_le _⟩
  have hd4 : d ≤ 4 ∧ (g = false → d ≤ 3) := by
    cases g
    · exact ⟨Nat.le_succ_of_le hdl.2, fun _ => hdl.2⟩
    · exact ⟨hdl.2, fun h => by cases h⟩
  have HRD := hid (fun k hk hd => plain_read (k := k) h1 h2 hk hd)
  have HU := hid h
  have hlt := h.rs.c.lt
  have hltm := h.rs.mt.lt
  have hsz := h.rs.sz
  have hnxb : ¬ xb = w.heap.size := by omega
  have hnxb2 : ¬ w.heap.size = xb := by omega
  have c1 : w.cell? ⟨xb, 1, none⟩ = some (.string s) := h.rs.c.cell 1
  have c2 : w.cell? ⟨xb, 2, none⟩ = some (.int .i64 p) := h.rs.c.cell 2
  have HI := hid (fun W (h : RU W xb mb s p v m) => is_c h.rs 38 (by decide))
  simp only [Bool.not_false, Bool.true_and] at HI
  rw [decide_eq_false hh] at HI
  have HD0 := hid hd0
  have HDL := hid hdl
  have HOO := hid hoo
  have hp' : (p : Int) < (s.size : Int) := by omega
  have h0' : (0 : Int) ≤ (p : Int) := by omega
  have hsz' : (s.size : Int) ≤ 4294967296 := by omega
  have HREAD := hid (fun (t : ByteArray) W (h : t.size ≤ 1099511627776) => read_any t W h)
  have HCK := hid (fun (t : ByteArray) W (h : t.size ≤ 1099511627776) => checkR_c t W h)
  clear h hh ho hg h1 h2 hd0 hdl hoo
  go_enter Tryd.func73, Tryd.ntmps73
  go_wp2_with fail
  refine (HI.out _ (HU.out.still ((Only.refl [] w).alloc _))).mono ?_
  rintro e w1 ⟨rfl, n, rfl⟩
  obtain ⟨W1, hW1⟩ : ∃ W1, (w.alloc (.cells #[.int .i64 0, .int .i64 0, .int .i64 0] 50)).drewN n = W1 := ⟨_, rfl⟩
  have HU1 := hid (show RU W1 xb mb s p v m by rw [← hW1]; exact (HU.out.still ((Only.refl [] w).alloc _)).still (only_drewN _ n))
  have HO1 := hid (show Only [] w W1 by rw [← hW1]; exact ((Only.refl [] w).alloc _).drewN n)
  have HB1 := hid (show Blk W1 w.heap.size [.int .i64 0, .int .i64 0, .int .i64 0] 50 by rw [← hW1]; exact (Blk.new w #[.int .i64 0, .int .i64 0, .int .i64 0] 50 rfl).drewN n)
  rw [hW1]
  clear hW1 c1 c2 HI
  have c1 : W1.cell? ⟨xb, 1, none⟩ = some (.string s) := HU1.out.rs.c.cell 1
  have c2 : W1.cell? ⟨xb, 2, none⟩ = some (.int .i64 p) := HU1.out.rs.c.cell 2
  go_wp2
  go_quiet (fail)
  go_wp2_with fail
  obtain ⟨mo, hmI, hmo⟩ : ∃ mo : Nat, min ((s.size : Nat) : Int) ((p : Int) + 4) = (mo : Int) ∧ (mo ≤ s.size ∧ mo ≤ p + 4 ∧ (mo = s.size ∨ mo = p + 4)) := ⟨min s.size (p + 4), by omega, by omega⟩
  have HMO := hid hmo
  clear hmo
  rw [hmI]
  obtain ⟨W2, hW2⟩ : ∃ W2, W1.drewN nq = W2 := ⟨_, rfl⟩
  have HU2 := hid (show RU W2 xb mb s p v m by rw [← hW2]; exact HU1.out.still (only_drewN _ _))
  have HO2 := hid (show Only [] w W2 by rw [← hW2]; exact HO1.out.drewN _)
  have HB2 := hid (show Blk W2 w.heap.size [.int .i64 0, .int .i64 0, .int .i64 0] 50 by rw [← hW2]; exact HB1.out.drewN _)
  rw [hW2]
  clear hW2 hmI c1 c2 HU1 HO1 HB1 HU
  go_loopw [6] (fun vn wr => PlRel w xb mb s p v g x d o vn wr) (fun vn _ => p + 5 - (RowKit.intOf vn).toNat)
  case atStart => exact PlRel.mk p m ⟨rfl, Nat.le_refl _, by rw [Nat.sub_self]; exact HD0.out, HU2.out, by rw [Nat.sub_self]; exact HOO.out, HB2.out, HO2.out.mono (by simp)⟩
  case round =>
    obtain ⟨q, m', rfl, hpq, hdq, hu, hoo, hb, ho⟩ := hrel.at
    clear hrel
    have hq4 : q ≤ p + 3 := by
      cases g
      · have := hd4.2 rfl
        simp only [Bool.false_eq_true, if_false] at hdq
        omega
      · simp only [if_true] at hdq
        omega
    have HUQ := hid hu
    have HOQ2 := hid hoo
    have HOQ := hid ho
    have HBQ := hid hb
    have HDQ := hid hdq
    have c1 : wr.cell? ⟨xb, 1, none⟩ = some (.string s) := hu.rs.c.cell 1
    have c2 : wr.cell? ⟨xb, 2, none⟩ = some (.int .i64 q) := hu.rs.c.cell 2
    clear hu hoo ho hb hdq
    have hpqI : (p : Int) ≤ (q : Int) + 1 := by omega
    by_cases hqs : q < s.size
    · have hqI : (q : Int) + 1 ≤ (s.size : Int) := by omega
      have hyes : (q : Int) + 1 ≤ (mo : Int) := by have := HMO.out; omega
      rcases HRD.out (q - p) (by rw [rest_length]; omega) HDQ.out with ⟨hg, hkd, hc, hr⟩ | ⟨hk1, hk2, hc, hr⟩ | ⟨hg, hk, hc, hr⟩
      · skip
        have hex : (s.extract p (q + 1)).size ≤ 1099511627776 := by rw [ByteArray.size_extract]; omega
        have hbl : bl (s.extract p (q + 1)) = (rest s p).take (q - p + 1) := by rw [bl_extract, show q + 1 - p = q - p + 1 by omega]; rfl
        rw [← hbl] at hc hr
        have HR1 := hid (fun W => (by have h1 := HREAD.out (s.extract p (q + 1)) W hex; rw [hc, hr] at h1; exact h1 : Calls Tryd.prog 48 #[.string (s.extract p (q + 1))] W fun e w' => ∃ v, e = .returned (.tuple #[v, .int .i64 0, .bool false]) ∧ w'.ownsRow W.heap.size 82 2 v 1 [.int .i64 (0 : Nat), .int .i64 x] ∧ Below W.heap.size W w'))
        clear hc hr hex hbl
        subst hg
        have HKD := hid hkd
        clear hkd
        go_wp2_with fail
        refine (HR1.out _).mono ?_
        rintro e w3 ⟨v3, rfl, hrow, hb3⟩
        obtain ⟨ad, cap, rfl, hsl, hown⟩ := row_reads hrow
        obtain ⟨b, off, rfl, hat⟩ := hsl (by decide)
        have hbw := hown b off rfl
        have hwlt := HUQ.out.rs.c.lt
        have hwltm := HUQ.out.rs.mt.lt
        have HAT := hid hat
        have HU3 := hid (HUQ.out.still (Only.ofBelow hb3))
        have HO3 := hid (HOQ.out.trans ((Only.ofBelow hb3).mono (by simp)))
        have HB3 := hid ((Only.ofBelow hb3).blk HBQ.out (by simp))
        have hBlt := HBQ.out.lt
        clear hrow hsl hown hat hb3
        go_wp2_with fail
        refine (take_c HU3.out hqs).mono ?_
        rintro e w4 ⟨rfl, h1, h2, ho4⟩
        have hcx : w4.cell? ⟨b, off + 1, none⟩ = some (.int .i64 x) := (HAT.out.keep ho4 (by simp; omega)).2 1 _ rfl
        obtain ⟨pp, hcp, hpp⟩ : ∃ pp : Int, w4.cell? ⟨xb, 2, none⟩ = some (.int .i64 pp) ∧ (m'.stepOk 1 = true → pp = (q + 1 : Nat)) := by
          rcases hs2 : m'.stepOk 1 with _ | _
          · obtain ⟨p', v', hx⟩ := h2 hs2
            exact ⟨p', hx.c.cell 2, fun h => by cases h⟩
          · exact ⟨_, (h1 hs2).rs.c.cell 2, fun _ => rfl⟩
        have HPP := hid hpp
        have H1 := hid h1
        have H2 := hid h2
        have HO4 := hid (HO3.out.trans ho4)
        have HBW := hid (show Blk w4 w.heap.size [.int .i64 0, .int .i64 0, .int .i64 0] 50 from ho4.blk HB3.out (by simp; omega))
        have e0 := HBW.out.cell 0
        have e1 := HBW.out.cell 1
        have e2 := HBW.out.cell 2
        have f0 := HBW.out.froz 0
        have f1 := HBW.out.froz 1
        have f2 := HBW.out.froz 2
        simp only [List.getElem?_cons_zero, List.getElem?_cons_succ] at e0 e1 e2
        clear h1 h2 ho4 hpp
        have hS := And.intro hcx hcp
        have hbx : ¬ b = w.heap.size := by omega
        have hbx2 : ¬ w.heap.size = b := by omega
        go_wp2_with fail
        go_region_held3 (fun w' => w'.cell? ⟨b, off + 1, none⟩ = some (.int .i64 x) ∧ w'.cell? ⟨xb, 2, none⟩ = some (.int .i64 pp)) (first | exact hS | go_keep) (fail)
        go_wp2_with fail
        obtain ⟨WF, hWF⟩ : ∃ WF, (((w4.setCell ⟨w.heap.size, 0, none⟩ (.int .i64 x)).setCell ⟨w.heap.size, 1, none⟩ (.int .i64 p)).setCell ⟨w.heap.size, 2, none⟩ (.int .i64 pp)).drew = WF := ⟨_, rfl⟩
        have hBF : Blk WF w.heap.size [.int .i64 x, .int .i64 p, .int .i64 pp] 50 := by rw [← hWF]; exact (((HBW.out.set 0 (.int .i64 x)).set 1 (.int .i64 p)).set 2 (.int .i64 pp)).drewN 1
        have hOF : Only [xb, mb] w WF := by rw [← hWF]; exact (((HO4.out.set (.inr (Nat.le_refl _)) _).set (.inr (Nat.le_refl _)) _).set (.inr (Nat.le_refl _)) _).drewN 1
        have hmove : ∀ {q2 : Nat} {v2 : Value} {F : Int × Int} {wr2 : Bool} {mm : M}, RS w4 xb mb s q2 v2 F wr2 mm → RS WF xb mb s q2 v2 F wr2 mm := by
          intro q2 v2 F wr2 mm h
          rw [← hWF]
          exact ⟨(((h.c.other _ _ hnxb).other _ _ hnxb).other _ _ hnxb).drewN 1, (((h.mt.other _ _ (by simp; omega)).other _ _ (by simp; omega)).other _ _ (by simp; omega)).drewN 1, h.ok, h.le, h.sz⟩
        rw [hWF]
        have g0 := hBF.cell 0
        have g1 := hBF.cell 1
        have g2 := hBF.cell 2
        simp only [List.getElem?_cons_zero, List.getElem?_cons_succ] at g0 g1 g2
        refine bodyPost_ret (v := chV x p pp) ?_ rfl ⟨?_, hOF⟩
        · simp [results, Tryd.f73, go_sem, g0, g1, g2, chV]
        · have hkd := HKD.out
          rcases hs2 : m'.stepOk 1 with _ | _
          · have hP : o = (m'.step 1, .error (20, 0)) := by rw [← HOQ2.out, plK_up (by omega), fo_kP_no HUQ.out.why hqs hs2]
            obtain ⟨p', v', hx⟩ := H2.out hs2
            rw [hP]
            exact ⟨⟨_, _, _, rfl⟩, p', v', hmove hx⟩
          · have hP : o = (m'.step 1, .ok (x, q + 1)) := by
              rw [← HOQ2.out, plK_up (by omega), fo_kP_yes HUQ.out.why hqs hs2, ← fo_done (H1.out hs2).rs.ok (H1.out hs2).why (q + 1) x]
              refine fo_congr ?_
              show Except.ok (x, d - (q - p + 1)) = Except.ok (x, 0)
              rw [← hkd, Nat.sub_self]
            rw [hP, HPP.out hs2]
            exact ⟨rfl, hmove (H1.out hs2).rs, (H1.out hs2).why⟩
      · skip
        have hex : (s.extract p (q + 1)).size ≤ 1099511627776 := by rw [ByteArray.size_extract]; omega
        have hbl : bl (s.extract p (q + 1)) = (rest s p).take (q - p + 1) := by rw [bl_extract, show q + 1 - p = q - p + 1 by omega]; rfl
        rw [← hbl] at hc hr
        have HR1 := hid (fun W => (by have h1 := HREAD.out (s.extract p (q + 1)) W hex; rw [hc, hr] at h1; exact h1 : Calls Tryd.prog 48 #[.string (s.extract p (q + 1))] W fun e w' => ∃ v, e = .returned (.tuple #[v, .int .i64 (q - p + 1 : Nat), .bool true]) ∧ w'.ownsRow W.heap.size 82 2 v 0 [] ∧ Below W.heap.size W w'))
        have HC1 := hid (fun W => (by have h1 := HCK.out (s.extract p (q + 1)) W hex; rw [hc] at h1; unfold told at h1; simp only at h1; rw [show ((q - p + 1 : Nat) : Int) = (q : Int) + 1 - (p : Int) by omega] at h1; exact h1 : Calls Tryd.prog 94 #[.string (s.extract p (q + 1))] W fun e w' => e = .returned (.agg #[.int .i64 40, .int .i64 ((q : Int) + 1 - (p : Int))]) ∧ Below W.heap.size W w'))
        clear hc hr hex hbl
        have HK1 := hid hk1
        have HK2 := hid hk2
        clear hk1 hk2
        go_wp2_with fail
        refine (HR1.out _).mono ?_
        rintro e w3 ⟨v3, rfl, hrow, hb3⟩
        obtain ⟨ad, cap, rfl, -, -⟩ := row_reads hrow
        have hwlt := HUQ.out.rs.c.lt
        have hwltm := HUQ.out.rs.mt.lt
        have hBlt := HBQ.out.lt
        have HU3 := hid (HUQ.out.still (Only.ofBelow hb3))
        have HO3 := hid (HOQ.out.trans ((Only.ofBelow hb3).mono (by simp)))
        have HB3 := hid ((Only.ofBelow hb3).blk HBQ.out (by simp))
        have hge := hb3.size
        have a1 : w3.cell? ⟨xb, 1, none⟩ = some (.string s) := HU3.out.rs.c.cell 1
        clear hrow hb3
        go_wp2_with fail
        refine (HC1.out _).mono ?_
        rintro e w4 ⟨rfl, hb4⟩
        have HU4 := hid (HU3.out.still (Only.ofBelow hb4))
        have HO4 := hid (HO3.out.trans ((Only.ofBelow hb4).mono (by simp)))
        have HB4 := hid ((Only.ofBelow hb4).blk HB3.out (by simp))
        have hge4 := hb4.size
        clear hb4
        go_wp2_with fail
        refine (take_c (HU4.out.still ((Only.refl [] w4).alloc _)) hqs).mono ?_
        rintro e w5 ⟨rfl, h1, h2, hol⟩
        have hBA := ((Only.refl [] w4).alloc (.cells #[.int .i64 40, .int .i64 ((q : Int) + 1 - (p : Int))] 35)).blk HB4.out (by simp)
        have HO5 := hid (HO4.out.trans (Only.behind ((Only.refl [] w4).alloc _) hol))
        have HBW := hid (show Blk w5 w.heap.size [.int .i64 0, .int .i64 0, .int .i64 0] 50 from hol.blk hBA (by simp; omega))
        have e0 := HBW.out.cell 0
        have e1 := HBW.out.cell 1
        have e2 := HBW.out.cell 2
        have f0 := HBW.out.froz 0
        have f1 := HBW.out.froz 1
        have f2 := HBW.out.froz 2
        simp only [List.getElem?_cons_zero, List.getElem?_cons_succ] at e0 e1 e2
        rcases hs2 : m'.stepOk 1 with _ | _
        · have hx := h2 hs2
          have HP : Hid (o = (m'.step 1, .error (20, 0))) := hid (by rw [← HOQ2.out, plK_up (by have := HK1.out; omega), fo_kP_no HUQ.out.why hqs hs2])
          obtain ⟨PX, VX, hxx⟩ := hx
          have HXX := hid hxx
          have HOW := hid HO5.out
          have c6 : w5.cell? ⟨xb, 6, none⟩ = some (.bool true) := hxx.c.cell 6
          clear hxx hol h1 h2 hs2
          go_wp2_with fail
          have hB2 := ((HBW.out.set 0 (.int .i64 0)).set 1 (.int .i64 0)).set 2 (.int .i64 0)
          have g0 := hB2.cell 0
          have g1 := hB2.cell 1
          have g2 := hB2.cell 2
          simp only [List.set_cons_zero, List.set_cons_succ, List.getElem?_cons_zero, List.getElem?_cons_succ] at g0 g1 g2
          rw [HP.out]
          refine bodyPost_ret (v := chV 0 0 0) ?_ rfl ⟨⟨⟨_, _, _, rfl⟩, PX, VX, ?_⟩, ?_⟩
          · simp [results, Tryd.f73, go_sem, g0, g1, g2, chV]
          · exact ⟨((HXX.out.c.other _ _ hnxb).other _ _ hnxb).other _ _ hnxb, ((HXX.out.mt.other _ _ (by simp; omega)).other _ _ (by simp; omega)).other _ _ (by simp; omega), HXX.out.ok, HXX.out.le, HXX.out.sz⟩
          · exact ((HOW.out.set (.inr (Nat.le_refl _)) _).set (.inr (Nat.le_refl _)) _).set (.inr (Nat.le_refl _)) _
        · have hu5 := h1 hs2
          have HU5 := hid hu5
          have c6 : w5.cell? ⟨xb, 6, none⟩ = some (.bool false) := hu5.rs.c.cell 6
          have HST := hid hs2
          clear hu5 h1 h2 hol hs2
          go_wp2
          go_roundw
          case rel =>
            refine PlRel.mk (q + 1) (m'.step 1) ⟨?_, ?_, ?_, HU5.out, ?_, HBW.out, HO5.out⟩
            · exact congrArg (Value.int .i64) (show ((q : Int) + 1) + 1 = ((q + 1 : Nat) : Int) + 1 by omega)
            · omega
            · have h3 := HK1.out
              have h4 := HK2.out
              cases g
              · simp only [Bool.false_eq_true, if_false]; omega
              · have := h4 rfl
                simp only [if_true]; omega
            · rw [show q + 1 - p = q - p + 1 by omega, ← HOQ2.out, plK_up (k := q - p) (by have := HK1.out; omega), fo_kP_yes HUQ.out.why hqs HST.out]
          case measure =>
            simp [RowKit.intOf]
            omega
      · skip
        have hex : (s.extract p (q + 1)).size ≤ 1099511627776 := by rw [ByteArray.size_extract]; omega
        have hbl : bl (s.extract p (q + 1)) = (rest s p).take (q - p + 1) := by rw [bl_extract, show q + 1 - p = q - p + 1 by omega]; rfl
        rw [← hbl] at hc hr
        have HR1 := hid (fun W => (by have h1 := HREAD.out (s.extract p (q + 1)) W hex; rw [hc, hr] at h1; exact h1 : Calls Tryd.prog 48 #[.string (s.extract p (q + 1))] W fun e w' => ∃ v, e = .returned (.tuple #[v, .int .i64 (q - p : Nat), .bool true]) ∧ w'.ownsRow W.heap.size 82 2 v 0 [] ∧ Below W.heap.size W w'))
        have HC1 := hid (fun W => (by have h1 := HCK.out (s.extract p (q + 1)) W hex; rw [hc] at h1; unfold told at h1; simp only at h1; rw [show ((q - p : Nat) : Int) = (q : Int) - (p : Int) by omega] at h1; exact h1 : Calls Tryd.prog 94 #[.string (s.extract p (q + 1))] W fun e w' => e = .returned (.agg #[.int .i64 40, .int .i64 ((q : Int) - (p : Int))]) ∧ Below W.heap.size W w'))
        clear hc hr hex hbl
        subst hg
        have HKD := hid hk
        clear hk
        go_wp2_with fail
        refine (HR1.out _).mono ?_
        rintro e w3 ⟨v3, rfl, hrow, hb3⟩
        obtain ⟨ad, cap, rfl, -, -⟩ := row_reads hrow
        have hwlt := HUQ.out.rs.c.lt
        have hwltm := HUQ.out.rs.mt.lt
        have hBlt := HBQ.out.lt
        have HU3 := hid (HUQ.out.still (Only.ofBelow hb3))
        have HO3 := hid (HOQ.out.trans ((Only.ofBelow hb3).mono (by simp)))
        have HB3 := hid ((Only.ofBelow hb3).blk HBQ.out (by simp))
        have hge := hb3.size
        have a1 : w3.cell? ⟨xb, 1, none⟩ = some (.string s) := HU3.out.rs.c.cell 1
        clear hrow hb3
        go_wp2_with fail
        refine (HC1.out _).mono ?_
        rintro e w4 ⟨rfl, hb4⟩
        have HU4 := hid (HU3.out.still (Only.ofBelow hb4))
        have HO4 := hid (HO3.out.trans ((Only.ofBelow hb4).mono (by simp)))
        have HB4 := hid ((Only.ofBelow hb4).blk HB3.out (by simp))
        have hge4 := hb4.size
        clear hb4
        go_wp2_with fail
        refine (bad_c (HU4.out.still ((Only.refl [] w4).alloc _)) 40).mono ?_
        rintro e w5 ⟨rfl, hx, hol⟩
        have hBA := ((Only.refl [] w4).alloc (.cells #[.int .i64 40, .int .i64 ((q : Int) - (p : Int))] 35)).blk HB4.out (by simp)
        have HO5 := hid (HO4.out.trans (Only.behind ((Only.refl [] w4).alloc _) hol))
        have HP : Hid (o = (erM s m' q, .error (erF s m' q 40))) := hid (by
          rw [← HOQ2.out, ← fo_fails]
          refine fo_congr ?_
          show Except.error (40, d - (q - p)) = Except.error (40, 0)
          rw [HKD.out, Nat.sub_self])
        have HBW := hid (show Blk w5 w.heap.size [.int .i64 0, .int .i64 0, .int .i64 0] 50 from hol.blk hBA (by simp; omega))
        have e0 := HBW.out.cell 0
        have e1 := HBW.out.cell 1
        have e2 := HBW.out.cell 2
        have f0 := HBW.out.froz 0
        have f1 := HBW.out.froz 1
        have f2 := HBW.out.froz 2
        simp only [List.getElem?_cons_zero, List.getElem?_cons_succ] at e0 e1 e2
        obtain ⟨PX, VX, hxx⟩ := hx
        have HXX := hid hxx
        have HOW := hid HO5.out
        clear hxx hol
        go_wp2_with fail
        have hB2 := ((HBW.out.set 0 (.int .i64 0)).set 1 (.int .i64 0)).set 2 (.int .i64 0)
        have g0 := hB2.cell 0
        have g1 := hB2.cell 1
        have g2 := hB2.cell 2
        simp only [List.set_cons_zero, List.set_cons_succ, List.getElem?_cons_zero, List.getElem?_cons_succ] at g0 g1 g2
        rw [HP.out]
        refine bodyPost_ret (v := chV 0 0 0) ?_ rfl ⟨⟨⟨_, _, _, rfl⟩, PX, VX, ?_⟩, ?_⟩
        · simp [results, Tryd.f73, go_sem, g0, g1, g2, chV]
        · exact ⟨((HXX.out.c.other _ _ hnxb).other _ _ hnxb).other _ _ hnxb, ((HXX.out.mt.other _ _ (by simp; omega)).other _ _ (by simp; omega)).other _ _ (by simp; omega), HXX.out.ok, HXX.out.le, HXX.out.sz⟩
        · exact ((HOW.out.set (.inr (Nat.le_refl _)) _).set (.inr (Nat.le_refl _)) _).set (.inr (Nat.le_refl _)) _
    · skip
      have hge : q = s.size := by have := HUQ.out.rs.le; omega
      have hfalse : g = false ∧ d = q - p := by
        have h3 := HDL.out.1
        have h4 := HDQ.out
        cases g
        · simp only [Bool.false_eq_true, if_false] at h4
          exact ⟨rfl, by omega⟩
        · simp only [if_true] at h4
          omega
      obtain ⟨rfl, hdd⟩ := hfalse
      have HP : Hid (o = (erM s m' q, .error (erF s m' q 40))) := hid (by
        rw [← HOQ2.out, ← fo_fails]
        refine fo_congr ?_
        show Except.error (40, d - (q - p)) = Except.error (40, 0)
        rw [hdd, Nat.sub_self])
      have hwlt := HUQ.out.rs.c.lt
      have hwltm := HUQ.out.rs.mt.lt
      have hBlt := HBQ.out.lt
      have hno : ¬ (q : Int) + 1 ≤ (mo : Int) := by have := HMO.out; omega
      clear hge hdd
      go_wp2_with fail
      refine (bad_c HUQ.out 40).mono ?_
      rintro e w4 ⟨rfl, hx, hol⟩
      have HBW := hid (show Blk w4 w.heap.size [.int .i64 0, .int .i64 0, .int .i64 0] 50 from hol.blk HBQ.out (by simp; omega))
      have e0 := HBW.out.cell 0
      have e1 := HBW.out.cell 1
      have e2 := HBW.out.cell 2
      have f0 := HBW.out.froz 0
      have f1 := HBW.out.froz 1
      have f2 := HBW.out.froz 2
      simp only [List.getElem?_cons_zero, List.getElem?_cons_succ] at e0 e1 e2
      obtain ⟨PX, VX, hxx⟩ := hx
      have HXX := hid hxx
      have HOW := hid (HOQ.out.trans hol)
      clear hxx hol
      go_wp2_with fail
      have hB2 := ((HBW.out.set 0 (.int .i64 0)).set 1 (.int .i64 0)).set 2 (.int .i64 0)
      have g0 := hB2.cell 0
      have g1 := hB2.cell 1
      have g2 := hB2.cell 2
      simp only [List.set_cons_zero, List.set_cons_succ, List.getElem?_cons_zero, List.getElem?_cons_succ] at g0 g1 g2
      rw [HP.out]
      refine bodyPost_ret (v := chV 0 0 0) ?_ rfl ⟨⟨⟨_, _, _, rfl⟩, PX, VX, ?_⟩, ?_⟩
      · simp [results, Tryd.f73, go_sem, g0, g1, g2, chV]
      · exact ⟨((HXX.out.c.other _ _ hnxb).other _ _ hnxb).other _ _ hnxb, ((HXX.out.mt.other _ _ (by simp; omega)).other _ _ (by simp; omega)).other _ _ (by simp; omega), HXX.out.ok, HXX.out.le, HXX.out.sz⟩
      · exact ((HOW.out.set (.inr (Nat.le_refl _)) _).set (.inr (Nat.le_refl _)) _).set (.inr (Nat.le_refl _)) _
theorem charR_c {w : World} {xb mb : Nat} {s : ByteArray} {p : Nat} {v : Value} {m : M} (h : RU w xb mb s p v m) (hp : p < s.size) :
    Calls Tryd.prog 73 #[.pointer (some ⟨xb, 0, none⟩)] w fun e w' => PRc w' xb mb s p v (fo s m p chrP) e ∧ Only [xb, mb] w w' := by
  by_cases hh : (rest s p).head? = some 38
  · exact charE_c h hh
  · exact charP_c h hp hh
end Go.Proofs.YthlbbinlkmchjaaDoor
namespace Go.Proofs.YthlbbinlkmchjaaDoor
open Go.RowKit

theorem put_no {w : World} {xb mb : Nat} {s : ByteArray} {p : Nat} {v : Value} {F : Int × Int} {m : M} (h : RS w xb mb s p v F true m) (kd at_ en : Int) (nm vl : ByteArray) (em : Bool) (cv : Value) (hcv : ∃ ad l c, cv = .slice ad l c) :
    Calls Tryd.prog 57 #[.pointer (some ⟨xb, 0, none⟩), .agg #[.int .i64 kd, .int .i64 at_, .int .i64 en, .string nm, .string vl, cv, .bool em]] w fun e w' => e = .returned (.tuple #[]) ∧ Only [] w w' := by
  obtain ⟨cad, cl, cc, rfl⟩ := hcv
  have c6 : (w.alloc (.cells #[.int .i64 kd, .int .i64 at_, .int .i64 en, .string nm, .string vl, .slice cad cl cc, .bool em] 48)).cell? ⟨xb, 6, none⟩ = some (.bool true) := (h.c.alloc _).cell 6
  clear h
  go_enter Tryd.func57, Tryd.ntmps57
  go_wp2_with fail
  exact bodyPost_ret (v := .tuple #[]) (results_none (fn := Tryd.f57) rfl _ _ _) rfl ⟨rfl, (Only.refl [] w).alloc _⟩
set_option maxRecDepth 100000 in
set_option maxHeartbeats 8000000 in
theorem putx_c {w : World} {xb mb B n : Nat} {s : ByteArray} {p : Nat} {tv cv : Value} {m : M} {xs : List Value} (h : RU w xb mb s p tv m) (hrow : w.ownsRow B 48 7 tv n xs) (hB : B ≤ w.heap.size) (hcb : tv.ownBlock ≠ some xb) (hmb : tv.ownBlock ≠ some mb) (hn : n ≤ 1099511627776)
    (kd at_ en : Int) (nm vl : ByteArray) (em : Bool) (hcv : ∃ ad l c, cv = .slice ad l c) :
    Calls Tryd.prog 57 #[.pointer (some ⟨xb, 0, none⟩), .agg #[.int .i64 kd, .int .i64 at_, .int .i64 en, .string nm, .string vl, cv, .bool em]] w fun e w' => e = .returned (.tuple #[]) ∧
      (m.holdOk 1 = true → (∃ tv', RU w' xb mb s p tv' (m.hold 1) ∧ w'.ownsRow B 48 7 tv' (n + 1) (xs ++ tkc kd at_ p nm vl em cv) ∧ (tv'.ownBlock = tv.ownBlock ∨ ∃ b, tv'.ownBlock = some b ∧ w.heap.size ≤ b)) ∧ Only (xb :: mb :: ob tv) w w') ∧
      (m.holdOk 1 = false → RX w' xb mb s (m.hold 1) (21, 0) ∧ Only [xb, mb] w w') := by
  have HU := hid h
  have HW := hid h.why
  have HRW := hid hrow
  have hlts := h.rs.c.lt
  have hltm := h.rs.mt.lt
  have HNE := hid h.rs.ne
  have HOK := hid (M.hold_ok h.rs.ok 1)
  obtain ⟨cad, cl, cc, rfl⟩ := hcv
  have HH := hid (fun W (h : Blk W mb m.rcells 84) => holdR_any m HU.out.rs.ok mb 1 W h)
  have hB0 := Blk.new w #[.int .i64 kd, .int .i64 at_, .int .i64 en, .string nm, .string vl, .slice cad cl cc, .bool em] 48 rfl
  have HB0 := hid hB0
  have c0 : (w.alloc (.cells #[.int .i64 kd, .int .i64 at_, .int .i64 en, .string nm, .string vl, .slice cad cl cc, .bool em] 48)).cell? ⟨xb, 0, none⟩ = some (.pointer (some ⟨mb, 0, none⟩)) := (h.rs.c.alloc _).cell 0
  have c6 : (w.alloc (.cells #[.int .i64 kd, .int .i64 at_, .int .i64 en, .string nm, .string vl, .slice cad cl cc, .bool em] 48)).cell? ⟨xb, 6, none⟩ = some (.bool false) := (h.rs.c.alloc _).cell 6
  have HHO := hid (fun (h : m.holdOk 1 = true) => M.hold_good HW.out h)
  have HHB := hid (fun (h : m.holdOk 1 = false) => M.hold_bad HW.out h)
  have HCB := hid hcb
  have HMB := hid hmb
  clear hcb hmb h hrow hB0
  rcases hho : m.holdOk 1 with _ | _
  · obtain ⟨hb1, -⟩ := HHB.out hho
    have hwhy : (m.hold 1).why = 21 := by rw [hb1]
    rw [hho] at HH
    have HF := hid (fun W h => faultR_c (m.hold 1) mb W h)
    rw [hwhy] at HF
    clear hho hwhy HHO HHB hb1
    go_enter Tryd.func57, Tryd.ntmps57
    go_wp2_with fail
    refine (HH.out _ (HU.out.rs.mt.alloc _)).mono ?_
    rintro e w1 ⟨rfl, hm1, ho1⟩
    have hc1 := ho1.blk (HU.out.rs.c.alloc _) (by simpa using HNE.out)
    have HM1 := hid hm1
    have HO1 := hid (Only.behind ((Only.refl [] w).alloc (.cells #[.int .i64 kd, .int .i64 at_, .int .i64 en, .string nm, .string vl, .slice cad cl cc, .bool em] 48)) ho1)
    have HC1 := hid hc1
    have c0 : w1.cell? ⟨xb, 0, none⟩ = some (.pointer (some ⟨mb, 0, none⟩)) := hc1.cell 0
    clear hc1 hm1 ho1
    go_wp2_with fail
    refine (HF.out w1 HM1.out).mono ?_
    rintro e w2 ⟨rfl, ho2⟩
    have hc2 := ho2.blk HC1.out (by simp)
    have HC2 := hid hc2
    have HM2 := hid (ho2.blk HM1.out (by simp))
    have HO2 := hid ho2
    have f4 := hc2.froz 4
    have f5 := hc2.froz 5
    have f6 := hc2.froz 6
    have c4 : w2.cell? ⟨xb, 4, none⟩ = some (.int .i64 0) := hc2.cell 4
    have c5 : w2.cell? ⟨xb, 5, none⟩ = some (.int .i64 0) := hc2.cell 5
    have c6 : w2.cell? ⟨xb, 6, none⟩ = some (.bool false) := hc2.cell 6
    clear hc2 ho2
    go_wp2_with fail
    refine bodyPost_ret (v := .tuple #[]) (results_none (fn := Tryd.f57) rfl _ _ _) rfl ⟨rfl, ?_, ?_⟩
    · intro h; cases h
    · exact fun _ => ⟨⟨p, tv, ((HC2.out.set 4 (.int .i64 21)).set 5 (.int .i64 0)).set 6 (.bool true), ((HM2.out.other _ _ (Ne.symm HNE.out)).other _ _ (Ne.symm HNE.out)).other _ _ (Ne.symm HNE.out), HOK.out, HU.out.rs.le, HU.out.rs.sz⟩, (((HO1.out.inr.trans (HO2.out.mono (by simp))).set (p := ⟨xb, 4, none⟩) (.inl (by simp)) _).set (p := ⟨xb, 5, none⟩) (.inl (by simp)) _).set (p := ⟨xb, 6, none⟩) (.inl (by simp)) _⟩
  · have hwhy : (m.hold 1).why = 0 := by rw [(HHO.out hho).1]; exact HW.out
    have HWHY := hid hwhy
    rw [hho] at HH
    clear hho hwhy HHO HHB
    obtain ⟨i48, hi48, z480, z481, z482⟩ := info_parts info48
    go_enter Tryd.func57, Tryd.ntmps57
    go_wp2_with fail
    refine (HH.out _ (HU.out.rs.mt.alloc _)).mono ?_
    rintro e w1 ⟨rfl, hm1, ho1⟩
    have hc1 := ho1.blk (HU.out.rs.c.alloc _) (by simpa using HNE.out)
    have hb1 := ho1.blk HB0.out (by simp; omega)
    have HC1 := hid hc1
    have HM1 := hid hm1
    have HB1 := hid hb1
    have HO1 := hid (Only.behind ((Only.refl [] w).alloc (.cells #[.int .i64 kd, .int .i64 at_, .int .i64 en, .string nm, .string vl, .slice cad cl cc, .bool em] 48)) ho1)
    have c2 : w1.cell? ⟨xb, 2, none⟩ = some (.int .i64 p) := hc1.cell 2
    have hbf := hb1.froz 2
    have hbc := hb1.cell 2
    simp only [List.getElem?_cons_zero, List.getElem?_cons_succ] at hbc
    clear hc1 hm1 hb1 ho1
    go_wp2_with fail
    obtain ⟨g, hg⟩ : ∃ g, w.heap.size = g := ⟨_, rfl⟩
    rw [hg] at HB1 hbf hbc ⊢
    have HB2 : Hid (Blk (w1.setCell ⟨g, 2, none⟩ (.int .i64 p)) g (tkc kd at_ p nm vl em (.slice cad cl cc)) 48) := hid (HB1.out.set 2 _)
    have HC2 := hid (HC1.out.other ⟨g, 2, none⟩ (.int .i64 p) (by simp; omega))
    have HM2 := hid (HM1.out.other ⟨g, 2, none⟩ (.int .i64 p) (by simp; omega))
    have HO2 : Hid (Only [mb] w (w1.setCell ⟨g, 2, none⟩ (.int .i64 p))) := hid (HO1.out.set (p := ⟨g, 2, none⟩) (.inr (by simp; omega)) _)
    have hrow2 := row_only HRW.out HO2.out (by
      intro b hb hm
      simp at hm
      subst hm
      exact HMB.out hb)
    have HR2 := hid hrow2
    obtain ⟨W, hW⟩ : ∃ W, w1.setCell ⟨g, 2, none⟩ (.int .i64 p) = W := ⟨_, rfl⟩
    rw [hW] at HB2 HC2 HM2 HO2 HR2 hrow2 ⊢
    clear hW hbf hbc c2 hrow2
    have d3 : W.cell? ⟨xb, 3, none⟩ = some tv := HC2.out.cell 3
    have f3 := HC2.out.froz 3
    have b0 := HB2.out.cell 0
    have b1 := HB2.out.cell 1
    have b2 := HB2.out.cell 2
    have b3 := HB2.out.cell 3
    have b4 := HB2.out.cell 4
    have b5 := HB2.out.cell 5
    have b6 := HB2.out.cell 6
    simp only [tkc, List.getElem?_cons_zero, List.getElem?_cons_succ] at b0 b1 b2 b3 b4 b5 b6
    go_wp2_with fail
    have hn1 : n + 1 ≤ maxLen := by unfold maxLen; omega
    have hn2 : (n + 1) * 88 ≤ 140737488355328 := by omega
    have hbt : ∀ u ∈ tkc kd at_ p nm vl em (.slice cad cl cc), u.oneCell' = true := by
      intro u hu
      simp only [tkc, List.mem_cons, List.not_mem_nil, or_false] at hu
      rcases hu with rfl | rfl | rfl | rfl | rfl | rfl | rfl <;> rfl
    have d3b : ∀ o, (W.alloc o).cell? ⟨xb, 3, none⟩ = some tv := fun o => (cell_past W o xb 3 HC2.out.lt).trans d3
    have mf : Tryd.prog.follows .mixedOrders = true := by kernel_rfl
    have hBW : B ≤ W.heap.size := Nat.le_trans hB HO2.out.size
    go_region_law (refine step_append_sl _ rfl _ _ 32 rfl B 48 i48 _ 7 88 Tryd.underlying32 hi48 z480 z481 z482 rfl (by decide) tv n xs (by rfl) (row_only HR2.out (((Only.refl [] W).drew).alloc (.cells (tkc kd at_ p nm vl em (.slice cad cl cc)).toArray 48)) (by simp)) (some ⟨W.heap.size, 0, none⟩) 1 1 (tkc kd at_ p nm vl em (.slice cad cl cc)) (by rfl) (by rfl) (sl_newest W.drew _ 48 rfl) hbt hn1 hn2 (by simp; omega) ?_; intro tv' w6 hown6 hg6; have hrr := row_reads hown6; obtain ⟨ad', cap', rfl, -, -⟩ := hrr; have hW7 := ((HC2.out.drew).alloc (.cells (tkc kd at_ p nm vl em (.slice cad cl cc)).toArray 48)); have HC6 : Hid (Blk w6 xb [.pointer (some ⟨mb, 0, none⟩), .string s, .int .i64 p, tv, .int .i64 0, .int .i64 0, .bool false] 89) := hid ((hg6.grown.block xb hW7.lt (fun e => HCB.out e.symm)).trans hW7); have hM7 := ((HM2.out.drew).alloc (.cells (tkc kd at_ p nm vl em (.slice cad cl cc)).toArray 48)); have HM6 : Hid (Blk w6 mb (m.hold 1).rcells 84) := hid ((hg6.grown.block mb hM7.lt (fun e => HMB.out e.symm)).trans hM7); have d6 : w6.cell? ⟨xb, 3, none⟩ = some tv := HC6.out.cell 3; have f6 := HC6.out.froz 3; have HOW6 := hid hown6; have HG6 := hid hg6; clear hown6 hg6 hW7 hM7)
    all_goals
      go_wp2
      refine bodyPost_end (results_none (fn := Tryd.f57) rfl _ _ _) rfl ?_
      have hcbx : (Value.slice ad' (n + 1) cap').ownBlock ≠ some xb := by
        rcases HG6.out with ⟨h1, _⟩ | ⟨h1, _⟩
        · rw [h1]; exact HCB.out
        · rw [h1]
          intro e
          have h2 := Option.some.inj e
          have h3 := HC2.out.lt
          simp at h2
          omega
      have HO7 : Only (xb :: mb :: ob tv) w w6 := only_grow (((HO2.out.mono (fun _ _ h => by simp at h; simp [h])).drew).alloc _) HG6.out.grown (fun b hb => .inl (by simp [mem_ob, hb]))
      refine ⟨rfl, fun _ => ⟨⟨_, ⟨⟨HC6.out.set 3 _, HM6.out.other _ _ (fun e => HNE.out e.symm), HOK.out, HU.out.rs.le, HU.out.rs.sz⟩, HWHY.out⟩, row_only HOW6.out ((Only.refl [xb] w6).set (p := ⟨xb, 3, none⟩) (.inl (by simp)) _) (fun b hb hm => by simp at hm; subst hm; exact hcbx hb), ?_⟩, HO7.set (p := ⟨xb, 3, none⟩) (.inl (by simp)) _⟩, fun h => (by cases h)⟩
      rcases HG6.out with ⟨h1, _⟩ | ⟨h1, _⟩
      · exact .inl h1
      · refine .inr ⟨_, h1, ?_⟩
        have := HO2.out.size
        simp
        omega
end Go.Proofs.YthlbbinlkmchjaaDoor
namespace Go.Proofs.YthlbbinlkmchjaaDoor
open Go.RowKit

/-- the reader in the midst of a scan -/
structure Sx (w0 w : World) (xb mb : Nat) (s : ByteArray) (p : Nat) (m : M) (xs : List (Tk × Tm)) (tv : Value) : Prop where
  ru : RU w xb mb s p tv m
  tl : TL w w0.heap.size tv xs
  fr : Only [mb] w0 w
  nw : w0.heap.size ≤ xb
  len : xs.length ≤ p
theorem Sx.apart {w0 w : World} {xb mb : Nat} {s : ByteArray} {p : Nat} {m : M} {xs : List (Tk × Tm)} {tv : Value} (h : Sx w0 w xb mb s p m xs tv) :
    tv.ownBlock ≠ some xb ∧ tv.ownBlock ≠ some mb ∧ xb ∉ cbs xs ∧ mb ∉ cbs xs := by
  refine ⟨row_not h.tl.row h.ru.rs.c (by decide), row_not h.tl.row h.ru.rs.mt (by decide), ?_, ?_⟩
  · intro hb
    obtain ⟨x, hx, hxb⟩ := mem_cbs.1 hb
    exact row_not (h.tl.rel x hx).ch h.ru.rs.c (by decide) hxb
  · intro hb
    obtain ⟨x, hx, hxb⟩ := mem_cbs.1 hb
    exact row_not (h.tl.rel x hx).ch h.ru.rs.mt (by decide) hxb
/-- a call that turns the cutter and the meter alone -/
theorem Sx.on {w0 w w' : World} {xb mb : Nat} {s : ByteArray} {p q : Nat} {m m' : M} {xs : List (Tk × Tm)} {tv : Value} (h : Sx w0 w xb mb s p m xs tv) (hc : RU w' xb mb s q tv m') (ho : Only [xb, mb] w w') (hq : p ≤ q) : Sx w0 w' xb mb s q m' xs tv := by
  obtain ⟨a1, a2, a3, a4⟩ := h.apart
  refine ⟨hc, h.tl.only ho (fun b hb hm => ?_) (fun b hb hm => ?_), h.fr.fresh ho (fun i hi hlt => ?_), h.nw, Nat.le_trans h.len hq⟩
  · simp at hm; rcases hm with rfl | rfl
    · exact a1 hb
    · exact a2 hb
  · simp at hm; rcases hm with rfl | rfl
    · exact a3 hb
    · exact a4 hb
  · simp at hi; rcases hi with rfl | rfl
    · have := h.nw; omega
    · simp
theorem Sx.off {w0 w w' : World} {xb mb : Nat} {s : ByteArray} {p : Nat} {m : M} {xs : List (Tk × Tm)} {tv : Value} (h : Sx w0 w xb mb s p m xs tv) (ho : Only [xb, mb] w w') : Only [mb] w0 w' :=
  h.fr.fresh ho (fun i hi hlt => by
    simp at hi; rcases hi with rfl | rfl
    · have := h.nw; omega
    · simp)
theorem Sx.still {w0 w w' : World} {xb mb : Nat} {s : ByteArray} {p : Nat} {m : M} {xs : List (Tk × Tm)} {tv : Value} (h : Sx w0 w xb mb s p m xs tv) (ho : Only [] w w') : Sx w0 w' xb mb s p m xs tv :=
  h.on (h.ru.still ho) (ho.mono (by simp)) (Nat.le_refl _)

theorem Sx.apt {L : List Nat} {w0 w w' : World} {xb mb : Nat} {s : ByteArray} {p : Nat} {m : M} {xs : List (Tk × Tm)} {tv : Value} (h : Sx w0 w xb mb s p m xs tv) (ho : Only L w w') (h1 : xb ∉ L) (h2 : mb ∉ L) (h3 : ∀ b, tv.ownBlock = some b → b ∉ L) (h4 : ∀ b ∈ cbs xs, b ∉ L) (h5 : ∀ b ∈ L, w0.heap.size ≤ b) : Sx w0 w' xb mb s p m xs tv :=
  ⟨h.ru.only ho h1 h2, h.tl.only ho h3 h4, h.fr.fresh ho (fun i hi hlt => by have := h5 i hi; omega), h.nw, h.len⟩
theorem Sx.grown {w0 w w' : World} {xb mb B n : Nat} {s : ByteArray} {p : Nat} {m : M} {xs : List (Tk × Tm)} {tv u : Value} {ys : List Value} (h : Sx w0 w xb mb s p m xs tv) (hu : w.ownsRow B 50 3 u n ys) (k : w.grownBy w' u.ownBlock)
    (hn : ∀ b, u.ownBlock = some b → b ∉ cbs xs ∧ w0.heap.size ≤ b) : Sx w0 w' xb mb s p m xs tv := by
  refine h.apt (only_grown k) (fun hm => ?_) (fun hm => ?_) (fun b hb hm => ?_) (fun b hb hm => ?_) (fun b hm => ?_)
  · exact row_not hu h.ru.rs.c (by decide) (mem_ob.1 hm)
  · exact row_not hu h.ru.rs.mt (by decide) (mem_ob.1 hm)
  · exact row_row hu h.tl.row (by decide) (mem_ob.1 hm) hb
  · exact (hn b (mem_ob.1 hm)).1 hb
  · exact (hn b (mem_ob.1 hm)).2
/-- what a token leaves -/
def PX (w0 w' : World) (xb mb : Nat) (s : ByteArray) (xs : List (Tk × Tm)) (o : O Tk) : Prop := match o.2 with
  | .ok x => ∃ u tv', Sx w0 w' xb mb s x.2 o.1 (xs ++ [(x.1, u)]) tv'
  | .error F => RX w' xb mb s o.1 F ∧ Only [mb] w0 w'
/-- a token is laid down -/
theorem put_s {w0 w : World} {xb mb : Nat} {s : ByteArray} {q : Nat} {m : M} {xs : List (Tk × Tm)} {tv : Value} (h : Sx w0 w xb mb s q m xs tv) (t : Tk) (u : Tm) (hnm : bl u.nm = t.nm) (hvl : bl u.vl = t.vl)
    (hch : w.ownsRow w0.heap.size 50 3 u.cv t.ch.length (t.ch.flatMap chc)) (hnew : ∀ b, u.cv.ownBlock = some b → b ∉ cbs xs) (hlen : xs.length + 1 ≤ q) (en : Int) :
    Calls Tryd.prog 57 #[.pointer (some ⟨xb, 0, none⟩), .agg #[.int .i64 t.kd, .int .i64 t.at_, .int .i64 en, .string u.nm, .string u.vl, u.cv, .bool t.em]] w fun e w' =>
      e = .returned (.tuple #[]) ∧ (m.holdOk 1 = true → ∃ tv', Sx w0 w' xb mb s q (m.hold 1) (xs ++ [({ t with en := q }, u)]) tv') ∧
      (m.holdOk 1 = false → RX w' xb mb s (m.hold 1) (21, 0) ∧ Only [mb] w0 w') := by
  obtain ⟨a1, a2, a3, a4⟩ := h.apart
  have hqs := h.ru.rs.le
  have hsz := h.ru.rs.sz
  have hcv : ∃ ad l c, u.cv = .slice ad l c := by
    obtain ⟨ad, c, e, _⟩ := row_reads hch
    exact ⟨ad, _, c, e⟩
  refine (putx_c h.ru h.tl.row h.fr.size a1 a2 (by omega) t.kd t.at_ en u.nm u.vl t.em hcv).mono ?_
  rintro e w' ⟨h0, h1, h2⟩
  refine ⟨h0, fun hh => ?_, fun hh => ?_⟩
  · obtain ⟨⟨tv', hcu, hrow, hbl⟩, ho⟩ := h1 hh
    refine ⟨tv', hcu, ⟨?_, ?_, ?_⟩, ?_, h.nw, by rw [List.length_append]; exact hlen⟩
    · rw [List.length_append, List.flatMap_append]
      simpa [tmc] using hrow
    · have key : ∀ (y : Tk × Tm), Rl w w0.heap.size y → Rl w' w0.heap.size y := fun y hy => ⟨hy.nm, hy.vl, row_only hy.ch ho fun b hb hm => by
        simp only [List.mem_cons, mem_ob] at hm
        rcases hm with rfl | rfl | hm
        · exact row_not hy.ch h.ru.rs.c (by decide) hb
        · exact row_not hy.ch h.ru.rs.mt (by decide) hb
        · exact row_row hy.ch h.tl.row (by decide) hb hm⟩
      intro x hx
      rcases List.mem_append.1 hx with hx | hx
      · exact key x (h.tl.rel x hx)
      · simp at hx
        subst hx
        exact key _ ⟨hnm, hvl, hch⟩
    · unfold cbs at *
      rw [List.filterMap_append, List.nodup_append]
      refine ⟨h.tl.ap, ?_, ?_⟩
      · simp only [List.filterMap_cons, List.filterMap_nil]
        split <;> simp
      · intro b hb c hc e
        subst e
        simp only [List.filterMap_cons, List.filterMap_nil] at hc
        split at hc
        · simp at hc
        · rename_i d hd
          simp at hc
          subst hc
          exact hnew _ hd hb
    · refine h.fr.fresh ho fun i hi hlt => ?_
      simp only [List.mem_cons, mem_ob] at hi
      rcases hi with rfl | rfl | hi
      · have := h.nw; omega
      · simp
      · have := (row_ge h.tl.row i hi).1; omega
  · obtain ⟨hx, ho⟩ := h2 hh
    exact ⟨hx, h.off ho⟩
end Go.Proofs.YthlbbinlkmchjaaDoor
namespace Go.Proofs.YthlbbinlkmchjaaDoor
open Go.RowKit

/-- the reader in the midst of a text -/
def TxRel (w0 w : World) (xb mb : Nat) (s : ByteArray) (p : Nat) (xs : List (Tk × Tm)) (tv : Value) (o : O (List (Nat × Nat × Nat))) (wr : World) : Prop :=
  (∃ (ys : List (Nat × Nat × Nat)) (q : Nat) (m' : M) (ad : Option Addr) (cap : Nat), Blk wr w.heap.size [.int .i64 5, .int .i64 p, .int .i64 0, .string ⟨#[]⟩, .string ⟨#[]⟩, .slice ad ys.length cap, .bool false] 48 ∧ wr.ownsRow w.heap.size 50 3 (.slice ad ys.length cap) ys.length (ys.flatMap chc) ∧ Sx w0 wr xb mb s q m' xs tv ∧ mapO (fun zs => ys ++ zs) (fo s m' q (chsP s q)) = o ∧ p + ys.length ≤ q ∧ (q = p → ys = [])) ∨
  (∃ (m1 : M) (F : Int × Int) (ad : Option Addr) (n cap : Nat), o = (m1, .error F) ∧ Blk wr w.heap.size [.int .i64 5, .int .i64 p, .int .i64 0, .string ⟨#[]⟩, .string ⟨#[]⟩, .slice ad n cap, .bool false] 48 ∧ RX wr xb mb s m1 F ∧ Only [mb] w0 wr)
theorem TxRel.fine {w0 w : World} {xb mb : Nat} {s : ByteArray} {p : Nat} {xs : List (Tk × Tm)} {tv : Value} {o : O (List (Nat × Nat × Nat))} {wr : World} (ys : List (Nat × Nat × Nat)) (q : Nat) (m' : M) (ad : Option Addr) (cap : Nat) (h0 : Blk wr w.heap.size [.int .i64 5, .int .i64 p, .int .i64 0, .string ⟨#[]⟩, .string ⟨#[]⟩, .slice ad ys.length cap, .bool false] 48) (h1 : wr.ownsRow w.heap.size 50 3 (.slice ad ys.length cap) ys.length (ys.flatMap chc)) (h2 : Sx w0 wr xb mb s q m' xs tv) (h3 : mapO (fun zs => ys ++ zs) (fo s m' q (chsP s q)) = o) (h4 : p + ys.length ≤ q) (h5 : (q = p → ys = [])) : TxRel w0 w xb mb s p xs tv o wr := .inl ⟨ys, q, m', ad, cap, h0, h1, h2, h3, h4, h5⟩
theorem TxRel.wrong {w0 w : World} {xb mb : Nat} {s : ByteArray} {p : Nat} {xs : List (Tk × Tm)} {tv : Value} {o : O (List (Nat × Nat × Nat))} {wr : World} (m1 : M) (F : Int × Int) (ad : Option Addr) (n cap : Nat) (h0 : o = (m1, .error F)) (h1 : Blk wr w.heap.size [.int .i64 5, .int .i64 p, .int .i64 0, .string ⟨#[]⟩, .string ⟨#[]⟩, .slice ad n cap, .bool false] 48) (h2 : RX wr xb mb s m1 F) (h3 : Only [mb] w0 wr) : TxRel w0 w xb mb s p xs tv o wr := .inr ⟨m1, F, ad, n, cap, h0, h1, h2, h3⟩
set_option maxRecDepth 100000 in
set_option maxHeartbeats 16000000 in
theorem textx_c {w0 w : World} {xb mb : Nat} {s : ByteArray} {p : Nat} {m : M} {xs : List (Tk × Tm)} {tv : Value} (h : Sx w0 w xb mb s p m xs tv) (hhd : ¬ ((rest s p).head? = none ∨ (rest s p).head? = some 60)) :
    Calls Tryd.prog 52 #[.pointer (some ⟨xb, 0, none⟩)] w fun e w' => e = .returned (.tuple #[]) ∧ PX w0 w' xb mb s xs (finT (fo s m p (txtP p))) := by
  have HS := hid h
  have hok := h.ru.rs.ok
  have hw := h.ru.why
  have hlt := h.ru.rs.c.lt
  have hltm := h.ru.rs.mt.lt
  have c2 : w.cell? ⟨xb, 2, none⟩ = some (.int .i64 p) := h.ru.rs.c.cell 2
  have hcl : ∀ b ∈ cbs xs, b < w.heap.size := fun b hb => by
    obtain ⟨x, hx, hxb⟩ := mem_cbs.1 hb
    exact (row_ge (h.tl.rel x hx).ch b hxb).2
  have HCL := hid hcl
  have hfr := hid h.fr.size
  obtain ⟨o, ho⟩ : ∃ o : O (List (Nat × Nat × Nat)), fo s m p (chsP s p) = o := ⟨_, rfl⟩
  have htx : fo s m p (txtP p) = mapO (fun ys => (⟨5, p, 0, [], [], false, ys⟩ : Tk)) o := by
    rw [txt_chs, fo_map hok hw (fair_chsP _ _) (fun ys => (⟨5, p, 0, [], [], false, ys⟩ : Tk)), ho]
  rw [htx]
  have HST : Hid (mapO (fun ys => [] ++ ys) (fo s m p (chsP s p)) = o) := hid (by
    show mapO (fun ys => ys) (fo s m p (chsP s p)) = o
    rw [ho]
    rcases o with ⟨m1, F | ⟨x, q⟩⟩ <;> rfl)
  have HHD := hid hhd
  have hszs := h.ru.rs.sz
  obtain ⟨i50, hi50, z500, z501, z502⟩ := info_parts info50
  clear h htx ho hcl hhd
  go_enter Tryd.func52, Tryd.ntmps52
  go_wp2
  obtain ⟨W0, hW0⟩ : ∃ W0, w.alloc (.cells #[.int .i64 5, .int .i64 p, .int .i64 0, .string ⟨#[]⟩, .string ⟨#[]⟩, .slice none 0 0, .bool false] 48) = W0 := ⟨_, rfl⟩
  have HT0 := hid (show Blk W0 w.heap.size [.int .i64 5, .int .i64 p, .int .i64 0, .string ⟨#[]⟩, .string ⟨#[]⟩, .slice none 0 0, .bool false] 48 by rw [← hW0]; exact Blk.new w #[.int .i64 5, .int .i64 p, .int .i64 0, .string ⟨#[]⟩, .string ⟨#[]⟩, .slice none 0 0, .bool false] 48 rfl)
  have HS0 := hid (show Sx w0 W0 xb mb s p m xs tv by rw [← hW0]; exact HS.out.still ((Only.refl [] w).alloc _))
  rw [hW0]
  clear hW0 c2
  go_loopw [] (fun wr => TxRel w0 w xb mb s p xs tv o wr) (fun wr => mR s xb wr)
  case atStart => exact .fine [] p m none 0 HT0.out (World.ownsRow_nil _ _ _ _) HS0.out HST.out (by simp) (fun _ => rfl)
  case round =>
    rcases hrel with ⟨ys, q, m', ad, cap, hT, hrow, hs, hoo, hlen, hfst⟩ | ⟨m1, F, ad, n, cap, ho, hT, hx, hw⟩
    · have HT := hid hT
      have HSK := hid hs
      have HRW := hid hrow
      have HOO := hid hoo
      have HLEN := hid hlen
      have HFST := hid hfst
      obtain ⟨k, hk⟩ : ∃ k, ys.length = k := ⟨_, rfl⟩
      have HK := hid hk
      rw [hk] at HRW HT
      have d1 : wr.cell? ⟨xb, 1, none⟩ = some (.string s) := hs.ru.rs.c.cell 1
      have d2 : wr.cell? ⟨xb, 2, none⟩ = some (.int .i64 (q : Int)) := hs.ru.rs.c.cell 2
      clear hT hrow hs hoo hlen hfst hk
      have HMQ := hid (fun n => more_c (HSK.out.ru.still (only_drewN wr n)).rs)
      simp only [Bool.not_false, Bool.true_and] at HMQ
      rcases HSK.out.ru.nil_or with ⟨hqs, hh⟩ | ⟨hqs, hh⟩
      · have hqI : (q : Int) < (s.size : Int) := by omega
        obtain ⟨b, hb⟩ : ∃ b, s[q]'hqs = b := ⟨_, rfl⟩
        rw [hb] at hh
        rw [decide_eq_true hqs] at HMQ
        by_cases h60 : b.toNat = 60
        · have HSTOP := hid (show (rest s q).head? = none ∨ (rest s q).head? = some 60 from .inr (by rw [hh, h60]))
          have heI : (b.toNat : Int) = 60 := by omega
          have heB : ((b.toNat : Int) == 60) = true := by simpa using heI
          have heB2 : ((b.toNat : Int) != 60) = false := by simpa using heI
          clear hh h60 heI
          have hfin : o = (m', .ok (ys, q)) := by
            rw [← HOO.out, show fo s m' q (chsP s q) = fo s m' q (done []) from fo_congr (chs_stop HSTOP.out), fo_done HSK.out.ru.rs.ok HSK.out.ru.why]
            simp [mapO]
          have HFIN := hid hfin
          have hqp : p + 1 ≤ q := by
            have h1 := HLEN.out
            rcases Nat.eq_or_lt_of_le (show p ≤ q by omega) with h2 | h2
            · exfalso
              have h3 := HSTOP.out
              rw [← h2] at h3
              exact HHD.out h3
            · exact h2
          have HQP := hid hqp
          clear hfin hqp
          go_wp2
          go_quiet ((first | (go_at_call 51; exact Calls.quiet_of (HMQ.out _))))
          obtain ⟨W1, hW1⟩ : ∃ W1, wr.drewN nq = W1 := ⟨_, rfl⟩
          have HT1 := hid (show Blk W1 w.heap.size [.int .i64 5, .int .i64 p, .int .i64 0, .string ⟨#[]⟩, .string ⟨#[]⟩, .slice ad k cap, .bool false] 48 by rw [← hW1]; exact HT.out.drewN nq)
          have b0 := HT1.out.cell 0
          have b1 := HT1.out.cell 1
          have b2 := HT1.out.cell 2
          have b3 := HT1.out.cell 3
          have b4 := HT1.out.cell 4
          have b5 := HT1.out.cell 5
          have b6 := HT1.out.cell 6
          simp only [List.getElem?_cons_zero, List.getElem?_cons_succ] at b0 b1 b2 b3 b4 b5 b6
          have HPT := hid (put_s (show Sx w0 W1 xb mb s q m' xs tv by rw [← hW1]; exact HSK.out.still (only_drewN _ nq)) ⟨5, p, 0, [], [], false, ys⟩ ⟨⟨#[]⟩, ⟨#[]⟩, .slice ad k cap⟩ rfl rfl (row_base (by have h9 := row_only HRW.out (only_drewN wr nq) (by simp); rw [hW1] at h9; rw [← HK.out] at h9 ⊢; exact h9) hfr.out) (fun b hb hm => by have h1 := (row_ge HRW.out b hb).1; have h2 := HCL.out b hm; omega) (by have := HS.out.len; have := HQP.out; omega) 0)
          rw [hW1]
          clear hW1
          go_wp2_with fail
          refine HPT.out.mono ?_
          rintro e w2 ⟨rfl, h1, h2⟩
          have HRES : Hid (PX w0 w2 xb mb s xs (finT (mapO (fun ys => (⟨5, p, 0, [], [], false, ys⟩ : Tk)) o))) := hid (by
            rw [HFIN.out]
            rcases hh : m'.holdOk 1 with _ | _
            · rw [show finT (mapO (fun ys => (⟨5, p, 0, [], [], false, ys⟩ : Tk)) (m', .ok (ys, q))) = (m'.hold 1, .error (21, 0)) from finT_no hh]
              exact h2 hh
            · rw [show finT (mapO (fun ys => (⟨5, p, 0, [], [], false, ys⟩ : Tk)) (m', .ok (ys, q))) = (m'.hold 1, .ok (⟨5, p, q, [], [], false, ys⟩, q)) from finT_yes hh]
              obtain ⟨tv', hx⟩ := h1 hh
              exact ⟨_, tv', hx⟩)
          clear h1 h2
          go_wp2
          exact bodyPost_end (results_none (fn := Tryd.f52) rfl _ _ _) rfl ⟨rfl, HRES.out⟩
        · have HNO := hid (show ¬ ((rest s q).head? = none ∨ (rest s q).head? = some 60) by
            rw [hh]
            rintro (e | e)
            · cases e
            · exact h60 (Option.some.inj e))
          have heI : ¬ (b.toNat : Int) = 60 := by omega
          have heB : ((b.toNat : Int) == 60) = false := by simpa using heI
          have heB2 : ((b.toNat : Int) != 60) = true := by simpa using heI
          clear hh h60 heI
          go_wp2
          go_quiet ((first | (go_at_call 51; exact Calls.quiet_of (HMQ.out _))))
          obtain ⟨W1, hW1⟩ : ∃ W1, wr.drewN nq = W1 := ⟨_, rfl⟩
          have HT1 := hid (show Blk W1 w.heap.size [.int .i64 5, .int .i64 p, .int .i64 0, .string ⟨#[]⟩, .string ⟨#[]⟩, .slice ad k cap, .bool false] 48 by rw [← hW1]; exact HT.out.drewN nq)
          have HS1 := hid (show Sx w0 W1 xb mb s q m' xs tv by rw [← hW1]; exact HSK.out.still (only_drewN _ nq))
          have HR1 := hid (show W1.ownsRow w.heap.size 50 3 (.slice ad k cap) k (ys.flatMap chc) by rw [← hW1]; exact row_only HRW.out (only_drewN wr nq) (by simp))
          rw [hW1]
          clear hW1
          have t5 : W1.cell? ⟨w.heap.size, 5, none⟩ = some (.slice ad k cap) := HT1.out.cell 5
          have hkb : k ≤ 4294967296 := by have := HK.out; have := HSK.out.ru.rs.le; have := HLEN.out; omega
          have ha1 : k + 1 ≤ maxLen := by unfold maxLen; omega
          have ha2 : (k + 1) * 24 ≤ 140737488355328 := by omega
          have mf : Tryd.prog.follows .mixedOrders = true := by kernel_rfl
          rcases hch : fo s m' q chrP with ⟨m1, F | ⟨x, q1⟩⟩
          · have hoE : o = (m1, .error F) := by rw [← HOO.out, chs_bad HSK.out.ru.why HNO.out hch]; rfl
            have HOE := hid hoE
            have HCH := hid (fun W (h : RU W xb mb s q tv m') => (by have := charR_c h hqs; rw [hch] at this; exact this : Calls Tryd.prog 73 #[.pointer (some ⟨xb, 0, none⟩)] W fun e w' => ((∃ i a b : Int, e = .returned (.agg #[.int .i64 i, .int .i64 a, .int .i64 b])) ∧ RX w' xb mb s m1 F) ∧ Only [xb, mb] W w'))
            clear hch hoE
            go_wp2_with fail
            go_region_law
              (first
                | (refine step_append_sl _ rfl _ _ 44 rfl w.heap.size 50 i50 _ 3 24 Tryd.underlying44 hi50 z500 z501 z502 rfl (by decide) (.slice ad k cap) k (ys.flatMap chc) (by rfl) HRA.out (some ⟨w2.heap.size, 0, none⟩) 1 1 [.int .i64 i, .int .i64 a1, .int .i64 b1] (by rfl) (by rfl) (sl_newest w2 [.int .i64 i, .int .i64 a1, .int .i64 b1] 50 rfl) hone3 ha1 ha2 hge3 ?_; intro v' w6 hown hgrew; obtain ⟨ad', cap', rfl, -, -⟩ := row_reads hown; have HT6 : Hid (Blk w6 w.heap.size [.int .i64 5, .int .i64 p, .int .i64 0, .string ⟨#[]⟩, .string ⟨#[]⟩, .slice ad k cap, .bool false] 48) := hid ((hgrew.grown.block w.heap.size HTA.out.lt (fun e => row_not HRA.out HTA.out (by decide) e.symm)).trans HTA.out); have HR6 := hid hown; have HG6 := hid hgrew; clear hown hgrew; have d5 : w6.cell? ⟨w.heap.size, 5, none⟩ = some (.slice ad k cap) := HT6.out.cell 5; have f5 := HT6.out.froz 5)
                | (go_simp; go_at_call 73; refine (HCH.out _ (HS1.out.ru.still ((Only.refl [] W1).drew))).mono ?_; rintro e w2 ⟨⟨⟨i, a1, b1, rfl⟩, hx⟩, hol⟩; have HOL := hid (Only.trans ((Only.refl [xb, mb] W1).drew) hol); have HX2 := hid hx; clear hx hol; have HT2 := hid (HOL.out.blk HT1.out (by simp; omega)); have HR2 := hid (row_only HR1.out HOL.out (by intro b hb hm; have h1 := (row_ge HRW.out b hb).1; simp at hm; omega)); have HRA := hid (row_only HR2.out ((Only.refl [] w2).alloc (.cells #[.int .i64 i, .int .i64 a1, .int .i64 b1] 50)) (by simp)); have HTA := hid (HT2.out.alloc (.cells #[.int .i64 i, .int .i64 a1, .int .i64 b1] 50)); have t52 : w2.cell? ⟨w.heap.size, 5, none⟩ = some (.slice ad k cap) := HT2.out.cell 5; have t53 : (w2.alloc (.cells #[.int .i64 i, .int .i64 a1, .int .i64 b1] 50)).cell? ⟨w.heap.size, 5, none⟩ = some (.slice ad k cap) := HTA.out.cell 5; have hge3 : w.heap.size ≤ (w2.alloc (.cells #[.int .i64 i, .int .i64 a1, .int .i64 b1] 50)).heap.size := (by have := HT2.out.lt; simp; omega); have hone3 : ∀ u ∈ ([.int .i64 i, .int .i64 a1, .int .i64 b1] : List Value), u.oneCell' = true := (by intro u hu; simp at hu; rcases hu with rfl | rfl | rfl <;> rfl); dsimp only))
            all_goals
              go_wp2
              have HF : Hid (RX (w6.setCell ⟨w.heap.size, 5, none⟩ (.slice ad' (k + 1) cap')) xb mb s m1 F ∧ Only [mb] w0 (w6.setCell ⟨w.heap.size, 5, none⟩ (.slice ad' (k + 1) cap'))) := hid (by
                obtain ⟨pp, vv, hxx⟩ := HX2.out
                have hoA : Only [mb] w0 w6 := ((HS1.out.off HOL.out).alloc _).fresh (only_grown HG6.out.grown) (fun j hj hlt => by
                  have h1 := (row_ge HRW.out j (mem_ob.1 hj)).1
                  have h2 := hfr.out
                  omega)
                exact ⟨⟨pp, vv, RS.only (L := [w.heap.size]) (RS.only (L := ob (.slice ad k cap)) (hxx.still ((Only.refl [] w2).alloc _)) (only_grown HG6.out.grown) (fun hm => row_not HRA.out (hxx.c.alloc _) (by decide) (mem_ob.1 hm)) (fun hm => row_not HRA.out (hxx.mt.alloc _) (by decide) (mem_ob.1 hm))) ((Only.refl [w.heap.size] w6).set (p := ⟨w.heap.size, 5, none⟩) (.inl (by simp)) _) (by simp; omega) (by simp; omega)⟩, hoA.set (p := ⟨w.heap.size, 5, none⟩) (.inr hfr.out) _⟩)
              go_roundw
              case rel => exact .wrong m1 F ad' (k + 1) cap' HOE.out (HT6.out.set 5 _) HF.out.1 HF.out.2
              case measure =>
                rw [mR_fine HSK.out.ru, mR_wrong HF.out.1]
                omega
          · have hgt := fo_gt HSK.out.ru.why goes_chr hch
            have hok1 := fo_mok HSK.out.ru.rs.ok hch
            have hw1 := fo_why HSK.out.ru.why hch
            have hst2 : mapO (fun zs => (ys ++ [(x, q, q1)]) ++ zs) (fo s m1 q1 (chsP s q1)) = o := by
              rw [← HOO.out, chs_go HSK.out.ru.why HNO.out hch, fo_map hok1 hw1 (fair_chsP _ _) (fun zs => (x, q, q1) :: zs), mapO_map]
              congr 1
              funext zs
              simp
            have HST2 := hid hst2
            have HGT := hid hgt
            have HCH := hid (fun W (h : RU W xb mb s q tv m') => (by have := charR_c h hqs; rw [hch] at this; exact this : Calls Tryd.prog 73 #[.pointer (some ⟨xb, 0, none⟩)] W fun e w' => (e = .returned (.agg #[.int .i64 x, .int .i64 q, .int .i64 q1]) ∧ RU w' xb mb s q1 tv m1) ∧ Only [xb, mb] W w'))
            clear hst2 hch hgt hok1 hw1
            go_wp2_with fail
            go_region_law
              (first
                | (refine step_append_sl _ rfl _ _ 44 rfl w.heap.size 50 i50 _ 3 24 Tryd.underlying44 hi50 z500 z501 z502 rfl (by decide) (.slice ad k cap) k (ys.flatMap chc) (by rfl) HRA.out (some ⟨w2.heap.size, 0, none⟩) 1 1 [.int .i64 x, .int .i64 q, .int .i64 q1] (by rfl) (by rfl) (sl_newest w2 [.int .i64 x, .int .i64 q, .int .i64 q1] 50 rfl) hone3 ha1 ha2 hge3 ?_; intro v' w6 hown hgrew; obtain ⟨ad', cap', rfl, -, -⟩ := row_reads hown; have HT6 : Hid (Blk w6 w.heap.size [.int .i64 5, .int .i64 p, .int .i64 0, .string ⟨#[]⟩, .string ⟨#[]⟩, .slice ad k cap, .bool false] 48) := hid ((hgrew.grown.block w.heap.size HTA.out.lt (fun e => row_not HRA.out HTA.out (by decide) e.symm)).trans HTA.out); have HR6 := hid hown; have HG6 := hid hgrew; clear hown hgrew; have d5 : w6.cell? ⟨w.heap.size, 5, none⟩ = some (.slice ad k cap) := HT6.out.cell 5; have f5 := HT6.out.froz 5)
                | (go_simp; go_at_call 73; refine (HCH.out _ (HS1.out.ru.still ((Only.refl [] W1).drew))).mono ?_; rintro e w2 ⟨⟨rfl, hx⟩, hol⟩; have HOL := hid (Only.trans ((Only.refl [xb, mb] W1).drew) hol); have HX2 := hid hx; clear hx hol; have HT2 := hid (HOL.out.blk HT1.out (by simp; omega)); have HR2 := hid (row_only HR1.out HOL.out (by intro b hb hm; have h1 := (row_ge HRW.out b hb).1; simp at hm; omega)); have HRA := hid (row_only HR2.out ((Only.refl [] w2).alloc (.cells #[.int .i64 x, .int .i64 q, .int .i64 q1] 50)) (by simp)); have HTA := hid (HT2.out.alloc (.cells #[.int .i64 x, .int .i64 q, .int .i64 q1] 50)); have t52 : w2.cell? ⟨w.heap.size, 5, none⟩ = some (.slice ad k cap) := HT2.out.cell 5; have t53 : (w2.alloc (.cells #[.int .i64 x, .int .i64 q, .int .i64 q1] 50)).cell? ⟨w.heap.size, 5, none⟩ = some (.slice ad k cap) := HTA.out.cell 5; have hge3 : w.heap.size ≤ (w2.alloc (.cells #[.int .i64 x, .int .i64 q, .int .i64 q1] 50)).heap.size := (by have := HT2.out.lt; simp; omega); have hone3 : ∀ u ∈ ([.int .i64 x, .int .i64 q, .int .i64 q1] : List Value), u.oneCell' = true := (by intro u hu; simp at hu; rcases hu with rfl | rfl | rfl <;> rfl); dsimp only))
            all_goals
              go_wp2
              have HF : Hid (Sx w0 (w6.setCell ⟨w.heap.size, 5, none⟩ (.slice ad' (k + 1) cap')) xb mb s q1 m1 xs tv) := hid (by
                have hs3 := ((HS1.out.on HX2.out HOL.out (by have := HGT.out; omega)).still ((Only.refl [] w2).alloc (.cells #[.int .i64 x, .int .i64 q, .int .i64 q1] 50))).grown HRA.out HG6.out.grown (fun b hb => by
                  have h1 := (row_ge HRW.out b hb).1
                  refine ⟨fun hm => ?_, ?_⟩
                  · have := HCL.out b hm; omega
                  · have := hfr.out; omega)
                refine hs3.apt (L := [w.heap.size]) ((Only.refl [w.heap.size] w6).set (p := ⟨w.heap.size, 5, none⟩) (.inl (by simp)) _) (by simp; omega) (by simp; omega) (fun b hb hm => ?_) (fun b hb hm => ?_) (fun b hm => ?_)
                · have h1 := (row_ge HS.out.tl.row b hb).2
                  simp at hm; omega
                · have h1 := HCL.out b hb
                  simp at hm; omega
                · simp at hm
                  subst hm
                  exact hfr.out)
              have hlen2 : (ys ++ [(x, q, q1)]).length = k + 1 := by rw [List.length_append, HK.out]; rfl
              have HL2 := hid hlen2
              have hrow2 := row_only HR6.out ((Only.refl [w.heap.size] w6).set (p := ⟨w.heap.size, 5, none⟩) (.inl (by simp)) (.slice ad' (k + 1) cap')) (fun b hb hm => by simp at hm; subst hm; exact row_not HR6.out HT6.out (by decide) hb)
              have HRF := hid hrow2
              clear hrow2 hlen2
              go_roundw
              case rel =>
                refine .fine (ys ++ [(x, q, q1)]) q1 m1 ad' cap' (by rw [HL2.out]; exact HT6.out.set 5 _) (by rw [HL2.out, List.flatMap_append]; exact HRF.out) HF.out HST2.out ?_ ?_
                · have h1 := HLEN.out
                  have h2 := HGT.out
                  have h3 := HK.out
                  skip
                  rw [HL2.out]; omega
                · intro e
                  have h1 := HLEN.out
                  have h2 := HGT.out
                  skip
                  omega
              case measure =>
                rw [mR_fine HSK.out.ru, mR_fine HF.out.ru]
                have h1 := HF.out.ru.rs.le
                have h2 := HGT.out
                skip
                omega
      · have hqs' : ¬ q < s.size := by omega
        have HSTOP := hid (show (rest s q).head? = none ∨ (rest s q).head? = some 60 from .inl (by rw [hh]))
        clear hh hqs
        have hqs := hqs'
        rw [decide_eq_false hqs] at HMQ
        have hfin : o = (m', .ok (ys, q)) := by
          rw [← HOO.out, show fo s m' q (chsP s q) = fo s m' q (done []) from fo_congr (chs_stop HSTOP.out), fo_done HSK.out.ru.rs.ok HSK.out.ru.why]
          simp [mapO]
        have HFIN := hid hfin
        have hqp : p + 1 ≤ q := by
          have h1 := HLEN.out
          rcases Nat.eq_or_lt_of_le (show p ≤ q by omega) with h2 | h2
          · exfalso
            have h3 := HSTOP.out
            rw [← h2] at h3
            exact HHD.out h3
          · exact h2
        have HQP := hid hqp
        clear hfin hqp
        go_wp2
        go_quiet ((first | (go_at_call 51; exact Calls.quiet_of (HMQ.out _))))
        obtain ⟨W1, hW1⟩ : ∃ W1, wr.drewN nq = W1 := ⟨_, rfl⟩
        have HT1 := hid (show Blk W1 w.heap.size [.int .i64 5, .int .i64 p, .int .i64 0, .string ⟨#[]⟩, .string ⟨#[]⟩, .slice ad k cap, .bool false] 48 by rw [← hW1]; exact HT.out.drewN nq)
        have b0 := HT1.out.cell 0
        have b1 := HT1.out.cell 1
        have b2 := HT1.out.cell 2
        have b3 := HT1.out.cell 3
        have b4 := HT1.out.cell 4
        have b5 := HT1.out.cell 5
        have b6 := HT1.out.cell 6
        simp only [List.getElem?_cons_zero, List.getElem?_cons_succ] at b0 b1 b2 b3 b4 b5 b6
        have HPT := hid (put_s (show Sx w0 W1 xb mb s q m' xs tv by rw [← hW1]; exact HSK.out.still (only_drewN _ nq)) ⟨5, p, 0, [], [], false, ys⟩ ⟨⟨#[]⟩, ⟨#[]⟩, .slice ad k cap⟩ rfl rfl (row_base (by have h9 := row_only HRW.out (only_drewN wr nq) (by simp); rw [hW1] at h9; rw [← HK.out] at h9 ⊢; exact h9) hfr.out) (fun b hb hm => by have h1 := (row_ge HRW.out b hb).1; have h2 := HCL.out b hm; omega) (by have := HS.out.len; have := HQP.out; omega) 0)
        rw [hW1]
        clear hW1
        go_wp2_with fail
        refine HPT.out.mono ?_
        rintro e w2 ⟨rfl, h1, h2⟩
        have HRES : Hid (PX w0 w2 xb mb s xs (finT (mapO (fun ys => (⟨5, p, 0, [], [], false, ys⟩ : Tk)) o))) := hid (by
          rw [HFIN.out]
          rcases hh : m'.holdOk 1 with _ | _
          · rw [show finT (mapO (fun ys => (⟨5, p, 0, [], [], false, ys⟩ : Tk)) (m', .ok (ys, q))) = (m'.hold 1, .error (21, 0)) from finT_no hh]
            exact h2 hh
          · rw [show finT (mapO (fun ys => (⟨5, p, 0, [], [], false, ys⟩ : Tk)) (m', .ok (ys, q))) = (m'.hold 1, .ok (⟨5, p, q, [], [], false, ys⟩, q)) from finT_yes hh]
            obtain ⟨tv', hx⟩ := h1 hh
            exact ⟨_, tv', hx⟩)
        clear h1 h2
        go_wp2
        exact bodyPost_end (results_none (fn := Tryd.f52) rfl _ _ _) rfl ⟨rfl, HRES.out⟩
    · have HT := hid hT
      have HX := hid hx
      have HW := hid hw
      have HOO := hid ho
      obtain ⟨pp, vv, hxx⟩ := hx
      have HXX := hid hxx
      have HMQ := hid (fun n => more_c (HXX.out.still (only_drewN wr n)))
      simp only [Bool.not_true, Bool.false_and] at HMQ
      clear hT hw ho hxx
      go_wp2
      go_quiet ((first | (go_at_call 51; exact Calls.quiet_of (HMQ.out _))))
      obtain ⟨W1, hW1⟩ : ∃ W1, wr.drewN nq = W1 := ⟨_, rfl⟩
      have HT1 := hid (show Blk W1 w.heap.size [.int .i64 5, .int .i64 p, .int .i64 0, .string ⟨#[]⟩, .string ⟨#[]⟩, .slice ad n cap, .bool false] 48 by rw [← hW1]; exact HT.out.drewN nq)
      have b0 := HT1.out.cell 0
      have b1 := HT1.out.cell 1
      have b2 := HT1.out.cell 2
      have b3 := HT1.out.cell 3
      have b4 := HT1.out.cell 4
      have b5 := HT1.out.cell 5
      have b6 := HT1.out.cell 6
      simp only [List.getElem?_cons_zero, List.getElem?_cons_succ] at b0 b1 b2 b3 b4 b5 b6
      have HX1 := hid (show RS W1 xb mb s pp vv F true m1 by rw [← hW1]; exact HXX.out.still (only_drewN _ nq))
      have HW1 := hid (show Only [mb] w0 W1 by rw [← hW1]; exact HW.out.drewN nq)
      have HPT := hid (put_no HX1.out 5 p 0 ⟨#[]⟩ ⟨#[]⟩ false (.slice ad n cap) ⟨_, _, _, rfl⟩)
      rw [hW1]
      clear hW1
      go_wp2_with fail
      refine HPT.out.mono ?_
      rintro e w2 ⟨rfl, h1⟩
      have HRES : Hid (PX w0 w2 xb mb s xs (finT (mapO (fun ys => (⟨5, p, 0, [], [], false, ys⟩ : Tk)) o))) := hid (by
        rw [HOO.out]
        exact ⟨⟨pp, vv, HX1.out.still h1⟩, HW1.out.trans (h1.mono (by simp))⟩)
      clear h1
      go_wp2
      exact bodyPost_end (results_none (fn := Tryd.f52) rfl _ _ _) rfl ⟨rfl, HRES.out⟩
end Go.Proofs.YthlbbinlkmchjaaDoor
