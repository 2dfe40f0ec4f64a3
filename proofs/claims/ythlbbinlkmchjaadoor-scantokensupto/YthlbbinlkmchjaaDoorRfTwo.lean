/- A scan by a meter that has refused: the reference's reader. -/
import Derived.Test.YthlbbinlkmchjaaDoorRfOne
import Derived.Test.YthlbbinlkmchjaaDoorRdThree
namespace Go.Proofs.YthlbbinlkmchjaaDoor
open Go.RowKit

/-- the reader at a byte, its meter has refused -/
structure Rq (w : World) (xb mb : Nat) (s : ByteArray) (p : Nat) (v : Value) (m : M) : Prop where
  rs : RS w xb mb s p v (0, 0) false m
  bad : m.why ≠ 0
  lt : p < s.size
theorem Rq.still {w w' : World} {xb mb : Nat} {s : ByteArray} {p : Nat} {v : Value} {m : M} (h : Rq w xb mb s p v m) (k : Only [] w w') : Rq w' xb mb s p v m := ⟨h.rs.still k, h.bad, h.lt⟩
set_option maxRecDepth 100000 in
set_option maxHeartbeats 8000000 in
theorem stepx_r {w : World} {xb mb : Nat} {s : ByteArray} {p : Nat} {v : Value} {m : M} (h : Rq w xb mb s p v m) :
    Calls Tryd.prog 74 #[.pointer (some ⟨xb, 0, none⟩)] w fun e w' => e = .returned (.tuple #[]) ∧ RX w' xb mb s m (m.why, 0) ∧ Only [xb, mb] w w' := by
  have HU := hid h
  have c0 : w.cell? ⟨xb, 0, none⟩ = some (.pointer (some ⟨mb, 0, none⟩)) := h.rs.c.cell 0
  have c6 : w.cell? ⟨xb, 6, none⟩ = some (.bool false) := h.rs.c.cell 6
  have HST := hid (stepR_any m h.rs.ok mb 1 w h.rs.mt)
  have HNE := hid h.rs.ne
  rw [(M.step_r h.bad 1).1, (M.step_r h.bad 1).2] at HST
  have HF := hid (fun W h => faultR_c m mb W h)
  clear h
  go_enter Tryd.func74, Tryd.ntmps74
  go_wp2_with fail
  refine HST.out.mono ?_
  rintro e w1 ⟨rfl, hm1, ho1⟩
  have hc1 := ho1.blk HU.out.rs.c (by simpa using HNE.out)
  have HM1 := hid hm1
  have HO1 := hid ho1
  have HC1 := hid hc1
  have c0 : w1.cell? ⟨xb, 0, none⟩ = some (.pointer (some ⟨mb, 0, none⟩)) := hc1.cell 0
  clear hc1 hm1 ho1
  go_wp2_with fail
  refine (HF.out w1 HM1.out).mono ?_
  rintro e w2 ⟨rfl, ho2⟩
  have hc2 := ho2.blk HC1.out (by simp)
  have HC2 := hid hc2
  have HM2 := hid (ho2.blk HM1.out (by simp))
  have HO2 := hid ho2
  have f4 := hc2.froz 4
  have f5 := hc2.froz 5
  have f6 := hc2.froz 6
  have c4 : w2.cell? ⟨xb, 4, none⟩ = some (.int .i64 0) := hc2.cell 4
  have c5 : w2.cell? ⟨xb, 5, none⟩ = some (.int .i64 0) := hc2.cell 5
  have c6 : w2.cell? ⟨xb, 6, none⟩ = some (.bool false) := hc2.cell 6
  clear hc2 ho2
  go_wp2_with fail
  refine bodyPost_end (results_none (fn := Tryd.f74) rfl _ _ _) rfl ⟨rfl, ?_, ?_⟩
  · exact ⟨p, v, ((HC2.out.set 4 (.int .i64 m.why)).set 5 (.int .i64 0)).set 6 (.bool true), ((HM2.out.other _ _ (Ne.symm HNE.out)).other _ _ (Ne.symm HNE.out)).other _ _ (Ne.symm HNE.out), HU.out.rs.ok, HU.out.rs.le, HU.out.rs.sz⟩
  · exact (((HO1.out.inr.trans (HO2.out.mono (by simp))).set (p := ⟨xb, 4, none⟩) (.inl (by simp)) _).set (p := ⟨xb, 5, none⟩) (.inl (by simp)) _).set (p := ⟨xb, 6, none⟩) (.inl (by simp)) _
set_option maxRecDepth 100000 in
set_option maxHeartbeats 8000000 in
theorem take_r {w : World} {xb mb : Nat} {s : ByteArray} {p : Nat} {v : Value} {m : M} (h : Rq w xb mb s p v m) :
    Calls Tryd.prog 53 #[.pointer (some ⟨xb, 0, none⟩)] w fun e w' => e = .returned (.tuple #[]) ∧ RX w' xb mb s m (m.why, 0) ∧ Only [xb, mb] w w' := by
  have HS := hid (stepx_r h)
  clear h
  go_enter Tryd.func53, Tryd.ntmps53
  go_wp2_with fail
  refine HS.out.mono ?_
  rintro e w1 ⟨rfl, ⟨q, u, hx⟩, ho⟩
  have c6 : w1.cell? ⟨xb, 6, none⟩ = some (.bool true) := hx.c.cell 6
  have HX := hid hx
  have HO := hid ho
  clear hx ho
  go_wp2
  refine bodyPost_end (results_none (fn := Tryd.f53) rfl _ _ _) rfl ⟨rfl, ⟨q, u, HX.out⟩, HO.out⟩
set_option maxRecDepth 100000 in
set_option maxHeartbeats 8000000 in
theorem bad_r {w : World} {xb mb : Nat} {s : ByteArray} {p : Nat} {v : Value} {m : M} (h : Rq w xb mb s p v m) (k : Nat) :
    Calls Tryd.prog 76 #[.pointer (some ⟨xb, 0, none⟩), .int .i64 k] w fun e w' => e = .returned (.tuple #[]) ∧ RX w' xb mb s m (m.why, 0) ∧ Only [xb, mb] w w' := by
  have HU := hid h
  have c1 : w.cell? ⟨xb, 1, none⟩ = some (.string s) := h.rs.c.cell 1
  have c2 : w.cell? ⟨xb, 2, none⟩ = some (.int .i64 p) := h.rs.c.cell 2
  have c6 : w.cell? ⟨xb, 6, none⟩ = some (.bool false) := h.rs.c.cell 6
  have HS := hid (fun W h => stepx_r (w := W) (xb := xb) (mb := mb) (s := s) (p := p) (v := v) (m := m) h)
  have hp := h.lt
  have hsz := h.rs.sz
  clear h
  have hpI : (p : Int) < (s.size : Int) := by omega
  go_enter Tryd.func76, Tryd.ntmps76
  go_wp2
  go_quiet (fail)
  go_wp2_with fail
  refine (HS.out _ (HU.out.still (only_drewN w _))).mono ?_
  rintro e w1 ⟨rfl, ⟨q, u, hx⟩, ho⟩
  have c6 : w1.cell? ⟨xb, 6, none⟩ = some (.bool true) := hx.c.cell 6
  have HX := hid hx
  have HO := hid ho
  clear hx ho
  go_wp2
  refine bodyPost_end (results_none (fn := Tryd.f76) rfl _ _ _) rfl ⟨rfl, ⟨q, u, HX.out⟩, (Only.behind (only_drewN w _) HO.out)⟩
set_option maxRecDepth 100000 in
set_option maxHeartbeats 8000000 in
theorem entityR_r {w : World} {xb mb : Nat} {s : ByteArray} {p : Nat} {v : Value} {m : M} (h : Rq w xb mb s p v m) :
    Calls Tryd.prog 93 #[.pointer (some ⟨xb, 0, none⟩)] w fun e w' => ((∃ i : Int, e = .returned (.int .i64 i)) ∧ RX w' xb mb s m (m.why, 0)) ∧ Only [xb, mb] w w' := by
  have hsz := h.rs.sz
  have hp := h.lt
  have HU := hid h
  have HT := hid (take_r h)
  have HMx := hid (fun W2 q u F mF (h : RS W2 xb mb s q u F true mF) => more_c h)
  have HIx := hid (fun W2 q u F mF (h : RS W2 xb mb s q u F true mF) c hc => is_c h c hc)
  have HBx := hid (fun W2 q u F mF (h : RS W2 xb mb s q u F true mF) => bad_no h 71)
  have HTx := hid (fun W2 q u F mF (h : RS W2 xb mb s q u F true mF) => take_no h)
  simp only [Bool.not_true, Bool.false_and] at HMx HIx
  clear h
  go_enter Tryd.func93, Tryd.ntmps93
  go_wp2_with fail
  refine HT.out.mono ?_
  rintro e w1 ⟨rfl, ⟨q, u, hx⟩, ho⟩
  have HX := hid hx
  have HO := hid ho
  have c2 : w1.cell? ⟨xb, 2, none⟩ = some (.int .i64 q) := hx.c.cell 2
  clear hx ho HT
  go_wp2_with fail
  refine (HIx.out w1 q u _ _ HX.out 35 (by decide)).mono ?_
  rintro e w2 ⟨rfl, n2, rfl⟩
  go_wp2_with fail
  go_loopw [] (fun wr => RS wr xb mb s q u (m.why, 0) true m ∧ Only [xb, mb] w wr) (fun wr => 0)
  case atStart => exact ⟨HX.out.still (only_drewN w1 n2), HO.out.trans ((only_drewN w1 n2).mono (by simp))⟩
  case round =>
    obtain ⟨hr, ho⟩ := hrel
    have HR := hid hr
    have HOK := hid ho
    have d6 : wr.cell? ⟨xb, 6, none⟩ = some (.bool true) := hr.c.cell 6
    clear hr ho
    go_wp2
    go_quiet ((go_at_call 51; exact Calls.quiet_of (HMx.out _ _ _ _ _ (HR.out.still (only_drewN _ _)))))
    obtain ⟨W3, hW3⟩ : ∃ W3, wr.drewN nq = W3 := ⟨_, rfl⟩
    have HR3 := hid (show RS W3 xb mb s q u (m.why, 0) true m by rw [← hW3]; exact HR.out.still (only_drewN wr nq))
    have HO3 := hid (show Only [xb, mb] w W3 by rw [← hW3]; exact HOK.out.trans ((only_drewN wr nq).mono (by simp)))
    rw [hW3]
    have d6 : W3.cell? ⟨xb, 6, none⟩ = some (.bool true) := HR3.out.c.cell 6
    clear hW3
    go_wp2
    go_quiet (fail)
    go_wp2_with fail
    refine (HBx.out _ _ _ _ _ (HR3.out.still (only_drewN W3 nq))).mono ?_
    rintro e w4 ⟨rfl, rfl⟩
    go_wp2
    go_ret
    exact ⟨⟨⟨_, rfl⟩, q, u, HR3.out.still (only_drewN W3 nq)⟩, HO3.out.trans ((only_drewN W3 nq).mono (by simp))⟩
set_option maxRecDepth 100000 in
set_option maxHeartbeats 8000000 in
theorem charE_r {w : World} {xb mb : Nat} {s : ByteArray} {p : Nat} {v : Value} {m : M} (h : Rq w xb mb s p v m) (hh : (rest s p).head? = some 38) :
    Calls Tryd.prog 73 #[.pointer (some ⟨xb, 0, none⟩)] w fun e w' => ((∃ i a b : Int, e = .returned (.agg #[.int .i64 i, .int .i64 a, .int .i64 b])) ∧ RX w' xb mb s m (m.why, 0)) ∧ Only [xb, mb] w w' := by
  have HU := hid h
  have hlt := h.rs.c.lt
  have hltm := h.rs.mt.lt
  have hnxb : ¬ xb = w.heap.size := by omega
  have hnxb2 : ¬ w.heap.size = xb := by omega
  have c2 : w.cell? ⟨xb, 2, none⟩ = some (.int .i64 p) := h.rs.c.cell 2
  have HI := hid (fun W (h : Rq W xb mb s p v m) => is_c h.rs 38 (by decide))
  simp only [Bool.not_false, Bool.true_and] at HI
  rw [decide_eq_true hh] at HI
  have HE := hid (fun W (h : Rq W xb mb s p v m) => entityR_r h)
  clear h hh
  go_enter Tryd.func73, Tryd.ntmps73
  go_wp2_with fail
  refine (HI.out _ (HU.out.still ((Only.refl [] w).alloc _))).mono ?_
  rintro e w1 ⟨rfl, n, rfl⟩
  go_wp2_with fail
  refine (HE.out _ ((HU.out.still ((Only.refl [] w).alloc _)).still (only_drewN _ n))).mono ?_
  rintro e w2 ⟨⟨⟨i, rfl⟩, hx⟩, hol⟩
  have hB0 := ((Blk.new w #[.int .i64 0, .int .i64 0, .int .i64 0] 50 rfl).drewN n)
  have hB := hid (hol.blk hB0 (by simp; omega))
  obtain ⟨p', v', hcb⟩ := hx
  have d2 : w2.cell? ⟨xb, 2, none⟩ = some (.int .i64 p') := hcb.c.cell 2
  have e0 := hB.out.cell 0
  have e1 := hB.out.cell 1
  have e2 := hB.out.cell 2
  have f0 := hB.out.froz 0
  have f1 := hB.out.froz 1
  have f2 := hB.out.froz 2
  simp only [List.getElem?_cons_zero, List.getElem?_cons_succ] at e0 e1 e2
  have HOL := hid hol
  have HCB := hid hcb
  clear hol hB0 hcb
  go_wp2_with fail
  have hB2 := ((hB.out.set 0 (.int .i64 i)).set 1 (.int .i64 p)).set 2 (.int .i64 p')
  have g0 := hB2.cell 0
  have g1 := hB2.cell 1
  have g2 := hB2.cell 2
  simp only [List.set_cons_zero, List.set_cons_succ, List.getElem?_cons_zero, List.getElem?_cons_succ] at g0 g1 g2
  refine bodyPost_ret (v := chV i p p') ?_ rfl ⟨⟨⟨_, _, _, rfl⟩, p', v', ?_⟩, ?_⟩
  · simp [results, Tryd.f73, go_sem, g0, g1, g2, chV]
  · exact ⟨((HCB.out.c.other _ _ hnxb).other _ _ hnxb).other _ _ hnxb, ((HCB.out.mt.other _ _ (by simp; omega)).other _ _ (by simp; omega)).other _ _ (by simp; omega), HCB.out.ok, HCB.out.le, HCB.out.sz⟩
  · exact ((((Only.behind (((Only.refl [] w).alloc _).drewN n) HOL.out).set (.inr (Nat.le_refl _)) _).set (.inr (Nat.le_refl _)) _).set (.inr (Nat.le_refl _)) _)
end Go.Proofs.YthlbbinlkmchjaaDoor
namespace Go.Proofs.YthlbbinlkmchjaaDoor
open Go.RowKit

set_option maxRecDepth 100000 in
set_option maxHeartbeats 16000000 in
theorem charP_r {w : World} {xb mb : Nat} {s : ByteArray} {p : Nat} {v : Value} {m : M} (h : Rq w xb mb s p v m) (hh : ¬ (rest s p).head? = some 38) :
    Calls Tryd.prog 73 #[.pointer (some ⟨xb, 0, none⟩)] w fun e w' => ((∃ i a b : Int, e = .returned (.agg #[.int .i64 i, .int .i64 a, .int .i64 b])) ∧ RX w' xb mb s m (m.why, 0)) ∧ Only [xb, mb] w w' := by
  obtain ⟨g, x, d, hg, h1, h2⟩ := plain_plK (rest s p)
  have hp := h.lt
  have hd0 : if g then 0 < d else 0 ≤ d := by
    cases g
    · exact Nat.zero_le _
    · obtain ⟨a, -, b⟩ := h1 rfl
      have := (bad_none a).1
      show 0 < d
      omega
  have hdl : d ≤ s.size - p ∧ (if g then d ≤ 4 else d ≤ 3) := by
    rw [← rest_length]
    cases g
    · have := bad_le (h2 rfl)
      exact ⟨this.2, this.1⟩
    · obtain ⟨a, -, b⟩ := h1 rfl
      have := (bad_none a).2
      rw [b]
      exact ⟨this, wide_le _⟩
  have hd4 : d ≤ 4 ∧ (g = false → d ≤ 3) := by
    cases g
    · exact ⟨Nat.le_succ_of_le hdl.2, fun _ => hdl.2⟩
    · exact ⟨hdl.2, fun h => by cases h⟩
  have HRD := hid (fun k hk hd => plain_read (k := k) h1 h2 hk hd)
  have HU := hid h
  have hlt := h.rs.c.lt
  have hltm := h.rs.mt.lt
  have hsz := h.rs.sz
  have hnxb : ¬ xb = w.heap.size := by omega
  have hnxb2 : ¬ w.heap.size = xb := by omega
  have c1 : w.cell? ⟨xb, 1, none⟩ = some (.string s) := h.rs.c.cell 1
  have c2 : w.cell? ⟨xb, 2, none⟩ = some (.int .i64 p) := h.rs.c.cell 2
  have HI := hid (fun W (h : Rq W xb mb s p v m) => is_c h.rs 38 (by decide))
  simp only [Bool.not_false, Bool.true_and] at HI
  rw [decide_eq_false hh] at HI
  have HD0 := hid hd0
  have HDL := hid hdl
  have hp' : (p : Int) < (s.size : Int) := by omega
  have h0' : (0 : Int) ≤ (p : Int) := by omega
  have hsz' : (s.size : Int) ≤ 4294967296 := by omega
  have HREAD := hid (fun (t : ByteArray) W (h : t.size ≤ 1099511627776) => read_any t W h)
  have HCK := hid (fun (t : ByteArray) W (h : t.size ≤ 1099511627776) => checkR_c t W h)
  clear h hh hg h1 h2 hdl
  go_enter Tryd.func73, Tryd.ntmps73
  go_wp2_with fail
  refine (HI.out _ (HU.out.still ((Only.refl [] w).alloc _))).mono ?_
  rintro e w1 ⟨rfl, n, rfl⟩
  obtain ⟨W1, hW1⟩ : ∃ W1, (w.alloc (.cells #[.int .i64 0, .int .i64 0, .int .i64 0] 50)).drewN n = W1 := ⟨_, rfl⟩
  have HU1 := hid (show Rq W1 xb mb s p v m by rw [← hW1]; exact (HU.out.still ((Only.refl [] w).alloc _)).still (only_drewN _ n))
  have HO1 := hid (show Only [] w W1 by rw [← hW1]; exact ((Only.refl [] w).alloc _).drewN n)
  have HB1 := hid (show Blk W1 w.heap.size [.int .i64 0, .int .i64 0, .int .i64 0] 50 by rw [← hW1]; exact (Blk.new w #[.int .i64 0, .int .i64 0, .int .i64 0] 50 rfl).drewN n)
  rw [hW1]
  clear hW1 c1 c2 HI
  have c1 : W1.cell? ⟨xb, 1, none⟩ = some (.string s) := HU1.out.rs.c.cell 1
  have c2 : W1.cell? ⟨xb, 2, none⟩ = some (.int .i64 p) := HU1.out.rs.c.cell 2
  go_wp2
  go_quiet (fail)
  go_wp2_with fail
  obtain ⟨mo, hmI, hmo⟩ : ∃ mo : Nat, min ((s.size : Nat) : Int) ((p : Int) + 4) = (mo : Int) ∧ (mo ≤ s.size ∧ mo ≤ p + 4 ∧ (mo = s.size ∨ mo = p + 4)) := ⟨min s.size (p + 4), by omega, by omega⟩
  have HMO := hid hmo
  clear hmo
  rw [hmI]
  obtain ⟨W2, hW2⟩ : ∃ W2, W1.drewN nq = W2 := ⟨_, rfl⟩
  have HU2 := hid (show Rq W2 xb mb s p v m by rw [← hW2]; exact HU1.out.still (only_drewN _ _))
  have HO2 := hid (show Only [] w W2 by rw [← hW2]; exact HO1.out.drewN _)
  have HB2 := hid (show Blk W2 w.heap.size [.int .i64 0, .int .i64 0, .int .i64 0] 50 by rw [← hW2]; exact HB1.out.drewN _)
  rw [hW2]
  clear hW2 hmI c1 c2 HU1 HO1 HB1 HU
  go_loopw [6] (fun vn wr => vn = .int .i64 ((p : Int) + 1) ∧ wr = W2) (fun vn _ => 0)
  case atStart => exact ⟨rfl, rfl⟩
  case round =>
    obtain ⟨rfl, rfl⟩ := hrel
    obtain ⟨q, hq⟩ : ∃ q, q = p := ⟨_, rfl⟩
    have hpq : p ≤ q := by omega
    have hqs : q < s.size := by omega
    have hdq : if g then q - p < d else q - p ≤ d := by rw [hq, Nat.sub_self]; exact HD0.out
    have HDQ := hid hdq
    have HUQ := hid (show Rq wr xb mb s q v m by rw [hq]; exact HU2.out)
    have HOQ : Hid (Only [xb, mb] w wr) := hid (HO2.out.mono (by simp))
    have HBQ := HB2
    rw [show ((p : Int) + 1) = (q : Int) + 1 by omega]
    have c1 : wr.cell? ⟨xb, 1, none⟩ = some (.string s) := HUQ.out.rs.c.cell 1
    have c2 : wr.cell? ⟨xb, 2, none⟩ = some (.int .i64 q) := HUQ.out.rs.c.cell 2
    clear hdq
    have hpqI : (p : Int) ≤ (q : Int) + 1 := by omega
    have hqI : (q : Int) + 1 ≤ (s.size : Int) := by omega
    have hyes : (q : Int) + 1 ≤ (mo : Int) := by have := HMO.out; omega
    clear hq
    rcases HRD.out (q - p) (by rw [rest_length]; omega) HDQ.out with ⟨hg, hkd, hc, hr⟩ | ⟨hk1, hk2, hc, hr⟩ | ⟨hg, hk, hc, hr⟩
    · skip
      have hex : (s.extract p (q + 1)).size ≤ 1099511627776 := by rw [ByteArray.size_extract]; omega
      have hbl : bl (s.extract p (q + 1)) = (rest s p).take (q - p + 1) := by rw [bl_extract, show q + 1 - p = q - p + 1 by omega]; rfl
      rw [← hbl] at hc hr
      have HR1 := hid (fun W => (by have h1 := HREAD.out (s.extract p (q + 1)) W hex; rw [hc, hr] at h1; exact h1 : Calls Tryd.prog 48 #[.string (s.extract p (q + 1))] W fun e w' => ∃ v, e = .returned (.tuple #[v, .int .i64 0, .bool false]) ∧ w'.ownsRow W.heap.size 82 2 v 1 [.int .i64 (0 : Nat), .int .i64 x] ∧ Below W.heap.size W w'))
      clear hc hr hex hbl
      subst hg
      have HKD := hid hkd
      clear hkd
      go_wp2_with fail
      refine (HR1.out _).mono ?_
      rintro e w3 ⟨v3, rfl, hrow, hb3⟩
      obtain ⟨ad, cap, rfl, hsl, hown⟩ := row_reads hrow
      obtain ⟨b, off, rfl, hat⟩ := hsl (by decide)
      have hbw := hown b off rfl
      have hwlt := HUQ.out.rs.c.lt
      have hwltm := HUQ.out.rs.mt.lt
      have HAT := hid hat
      have HU3 := hid (HUQ.out.still (Only.ofBelow hb3))
      have HO3 := hid (HOQ.out.trans ((Only.ofBelow hb3).mono (by simp)))
      have HB3 := hid ((Only.ofBelow hb3).blk HBQ.out (by simp))
      have hBlt := HBQ.out.lt
      clear hrow hsl hown hat hb3
      go_wp2_with fail
      refine (take_r HU3.out).mono ?_
      rintro e w4 ⟨rfl, ⟨p', v', hx4⟩, ho4⟩
      have hcx : w4.cell? ⟨b, off + 1, none⟩ = some (.int .i64 x) := (HAT.out.keep ho4 (by simp; omega)).2 1 _ rfl
      have hcp : w4.cell? ⟨xb, 2, none⟩ = some (.int .i64 (p' : Int)) := hx4.c.cell 2
      obtain ⟨pp, hpp⟩ : ∃ pp : Int, (p' : Int) = pp := ⟨_, rfl⟩
      rw [hpp] at hcp
      have HX4 := hid hx4
      have HO4 := hid (HO3.out.trans ho4)
      have HBW := hid (show Blk w4 w.heap.size [.int .i64 0, .int .i64 0, .int .i64 0] 50 from ho4.blk HB3.out (by simp; omega))
      have e0 := HBW.out.cell 0
      have e1 := HBW.out.cell 1
      have e2 := HBW.out.cell 2
      have f0 := HBW.out.froz 0
      have f1 := HBW.out.froz 1
      have f2 := HBW.out.froz 2
      simp only [List.getElem?_cons_zero, List.getElem?_cons_succ] at e0 e1 e2
      clear hx4 ho4 hpp
      have hS := And.intro hcx hcp
      have hbx : ¬ b = w.heap.size := by omega
      have hbx2 : ¬ w.heap.size = b := by omega
      go_wp2_with fail
      go_region_held3 (fun w' => w'.cell? ⟨b, off + 1, none⟩ = some (.int .i64 x) ∧ w'.cell? ⟨xb, 2, none⟩ = some (.int .i64 pp)) (first | exact hS | go_keep) (fail)
      go_wp2_with fail
      obtain ⟨WF, hWF⟩ : ∃ WF, (((w4.setCell ⟨w.heap.size, 0, none⟩ (.int .i64 x)).setCell ⟨w.heap.size, 1, none⟩ (.int .i64 p)).setCell ⟨w.heap.size, 2, none⟩ (.int .i64 pp)).drew = WF := ⟨_, rfl⟩
      have hBF : Blk WF w.heap.size [.int .i64 x, .int .i64 p, .int .i64 pp] 50 := by rw [← hWF]; exact (((HBW.out.set 0 (.int .i64 x)).set 1 (.int .i64 p)).set 2 (.int .i64 pp)).drewN 1
      have hOF : Only [xb, mb] w WF := by rw [← hWF]; exact (((HO4.out.set (.inr (Nat.le_refl _)) _).set (.inr (Nat.le_refl _)) _).set (.inr (Nat.le_refl _)) _).drewN 1
      have hmove : ∀ {q2 : Nat} {v2 : Value} {F : Int × Int} {wr2 : Bool} {mm : M}, RS w4 xb mb s q2 v2 F wr2 mm → RS WF xb mb s q2 v2 F wr2 mm := by
        intro q2 v2 F wr2 mm h
        rw [← hWF]
        exact ⟨(((h.c.other _ _ hnxb).other _ _ hnxb).other _ _ hnxb).drewN 1, (((h.mt.other _ _ (by simp; omega)).other _ _ (by simp; omega)).other _ _ (by simp; omega)).drewN 1, h.ok, h.le, h.sz⟩
      rw [hWF]
      have g0 := hBF.cell 0
      have g1 := hBF.cell 1
      have g2 := hBF.cell 2
      simp only [List.getElem?_cons_zero, List.getElem?_cons_succ] at g0 g1 g2
      refine bodyPost_ret (v := chV x p pp) ?_ rfl ⟨?_, hOF⟩
      · simp [results, Tryd.f73, go_sem, g0, g1, g2, chV]
      · exact ⟨⟨_, _, _, rfl⟩, p', v', hmove HX4.out⟩
    · skip
      have hex : (s.extract p (q + 1)).size ≤ 1099511627776 := by rw [ByteArray.size_extract]; omega
      have hbl : bl (s.extract p (q + 1)) = (rest s p).take (q - p + 1) := by rw [bl_extract, show q + 1 - p = q - p + 1 by omega]; rfl
      rw [← hbl] at hc hr
      have HR1 := hid (fun W => (by have h1 := HREAD.out (s.extract p (q + 1)) W hex; rw [hc, hr] at h1; exact h1 : Calls Tryd.prog 48 #[.string (s.extract p (q + 1))] W fun e w' => ∃ v, e = .returned (.tuple #[v, .int .i64 (q - p + 1 : Nat), .bool true]) ∧ w'.ownsRow W.heap.size 82 2 v 0 [] ∧ Below W.heap.size W w'))
      have HC1 := hid (fun W => (by have h1 := HCK.out (s.extract p (q + 1)) W hex; rw [hc] at h1; unfold told at h1; simp only at h1; rw [show ((q - p + 1 : Nat) : Int) = (q : Int) + 1 - (p : Int) by omega] at h1; exact h1 : Calls Tryd.prog 94 #[.string (s.extract p (q + 1))] W fun e w' => e = .returned (.agg #[.int .i64 40, .int .i64 ((q : Int) + 1 - (p : Int))]) ∧ Below W.heap.size W w'))
      clear hc hr hex hbl
      have HK1 := hid hk1
      have HK2 := hid hk2
      clear hk1 hk2
      go_wp2_with fail
      refine (HR1.out _).mono ?_
      rintro e w3 ⟨v3, rfl, hrow, hb3⟩
      obtain ⟨ad, cap, rfl, -, -⟩ := row_reads hrow
      have hwlt := HUQ.out.rs.c.lt
      have hwltm := HUQ.out.rs.mt.lt
      have hBlt := HBQ.out.lt
      have HU3 := hid (HUQ.out.still (Only.ofBelow hb3))
      have HO3 := hid (HOQ.out.trans ((Only.ofBelow hb3).mono (by simp)))
      have HB3 := hid ((Only.ofBelow hb3).blk HBQ.out (by simp))
      have hge := hb3.size
      have a1 : w3.cell? ⟨xb, 1, none⟩ = some (.string s) := HU3.out.rs.c.cell 1
      clear hrow hb3
      go_wp2_with fail
      refine (HC1.out _).mono ?_
      rintro e w4 ⟨rfl, hb4⟩
      have HU4 := hid (HU3.out.still (Only.ofBelow hb4))
      have HO4 := hid (HO3.out.trans ((Only.ofBelow hb4).mono (by simp)))
      have HB4 := hid ((Only.ofBelow hb4).blk HB3.out (by simp))
      have hge4 := hb4.size
      clear hb4
      go_wp2_with fail
      refine (take_r (HU4.out.still ((Only.refl [] w4).alloc _))).mono ?_
      rintro e w5 ⟨rfl, hx, hol⟩
      have hBA := ((Only.refl [] w4).alloc (.cells #[.int .i64 40, .int .i64 ((q : Int) + 1 - (p : Int))] 35)).blk HB4.out (by simp)
      have HO5 := hid (HO4.out.trans (Only.behind ((Only.refl [] w4).alloc _) hol))
      have HBW := hid (show Blk w5 w.heap.size [.int .i64 0, .int .i64 0, .int .i64 0] 50 from hol.blk hBA (by simp; omega))
      have e0 := HBW.out.cell 0
      have e1 := HBW.out.cell 1
      have e2 := HBW.out.cell 2
      have f0 := HBW.out.froz 0
      have f1 := HBW.out.froz 1
      have f2 := HBW.out.froz 2
      simp only [List.getElem?_cons_zero, List.getElem?_cons_succ] at e0 e1 e2
      obtain ⟨PX, VX, hxx⟩ := hx
      have HXX := hid hxx
      have HOW := hid HO5.out
      have c6 : w5.cell? ⟨xb, 6, none⟩ = some (.bool true) := hxx.c.cell 6
      clear hxx hol
      go_wp2_with fail
      have hB2 := ((HBW.out.set 0 (.int .i64 0)).set 1 (.int .i64 0)).set 2 (.int .i64 0)
      have g0 := hB2.cell 0
      have g1 := hB2.cell 1
      have g2 := hB2.cell 2
      simp only [List.set_cons_zero, List.set_cons_succ, List.getElem?_cons_zero, List.getElem?_cons_succ] at g0 g1 g2
      refine bodyPost_ret (v := chV 0 0 0) ?_ rfl ⟨⟨⟨_, _, _, rfl⟩, PX, VX, ?_⟩, ?_⟩
      · simp [results, Tryd.f73, go_sem, g0, g1, g2, chV]
      · exact ⟨((HXX.out.c.other _ _ hnxb).other _ _ hnxb).other _ _ hnxb, ((HXX.out.mt.other _ _ (by simp; omega)).other _ _ (by simp; omega)).other _ _ (by simp; omega), HXX.out.ok, HXX.out.le, HXX.out.sz⟩
      · exact ((HOW.out.set (.inr (Nat.le_refl _)) _).set (.inr (Nat.le_refl _)) _).set (.inr (Nat.le_refl _)) _
    · skip
      have hex : (s.extract p (q + 1)).size ≤ 1099511627776 := by rw [ByteArray.size_extract]; omega
      have hbl : bl (s.extract p (q + 1)) = (rest s p).take (q - p + 1) := by rw [bl_extract, show q + 1 - p = q - p + 1 by omega]; rfl
      rw [← hbl] at hc hr
      have HR1 := hid (fun W => (by have h1 := HREAD.out (s.extract p (q + 1)) W hex; rw [hc, hr] at h1; exact h1 : Calls Tryd.prog 48 #[.string (s.extract p (q + 1))] W fun e w' => ∃ v, e = .returned (.tuple #[v, .int .i64 (q - p : Nat), .bool true]) ∧ w'.ownsRow W.heap.size 82 2 v 0 [] ∧ Below W.heap.size W w'))
      have HC1 := hid (fun W => (by have h1 := HCK.out (s.extract p (q + 1)) W hex; rw [hc] at h1; unfold told at h1; simp only at h1; rw [show ((q - p : Nat) : Int) = (q : Int) - (p : Int) by omega] at h1; exact h1 : Calls Tryd.prog 94 #[.string (s.extract p (q + 1))] W fun e w' => e = .returned (.agg #[.int .i64 40, .int .i64 ((q : Int) - (p : Int))]) ∧ Below W.heap.size W w'))
      clear hc hr hex hbl
      subst hg
      have HKD := hid hk
      clear hk
      go_wp2_with fail
      refine (HR1.out _).mono ?_
      rintro e w3 ⟨v3, rfl, hrow, hb3⟩
      obtain ⟨ad, cap, rfl, -, -⟩ := row_reads hrow
      have hwlt := HUQ.out.rs.c.lt
      have hwltm := HUQ.out.rs.mt.lt
      have hBlt := HBQ.out.lt
      have HU3 := hid (HUQ.out.still (Only.ofBelow hb3))
      have HO3 := hid (HOQ.out.trans ((Only.ofBelow hb3).mono (by simp)))
      have HB3 := hid ((Only.ofBelow hb3).blk HBQ.out (by simp))
      have hge := hb3.size
      have a1 : w3.cell? ⟨xb, 1, none⟩ = some (.string s) := HU3.out.rs.c.cell 1
      clear hrow hb3
      go_wp2_with fail
      refine (HC1.out _).mono ?_
      rintro e w4 ⟨rfl, hb4⟩
      have HU4 := hid (HU3.out.still (Only.ofBelow hb4))
      have HO4 := hid (HO3.out.trans ((Only.ofBelow hb4).mono (by simp)))
      have HB4 := hid ((Only.ofBelow hb4).blk HB3.out (by simp))
      have hge4 := hb4.size
      clear hb4
      go_wp2_with fail
      refine (bad_r (HU4.out.still ((Only.refl [] w4).alloc _)) 40).mono ?_
      rintro e w5 ⟨rfl, hx, hol⟩
      have hBA := ((Only.refl [] w4).alloc (.cells #[.int .i64 40, .int .i64 ((q : Int) - (p : Int))] 35)).blk HB4.out (by simp)
      have HO5 := hid (HO4.out.trans (Only.behind ((Only.refl [] w4).alloc _) hol))
      have HBW := hid (show Blk w5 w.heap.size [.int .i64 0, .int .i64 0, .int .i64 0] 50 from hol.blk hBA (by simp; omega))
      have e0 := HBW.out.cell 0
      have e1 := HBW.out.cell 1
      have e2 := HBW.out.cell 2
      have f0 := HBW.out.froz 0
      have f1 := HBW.out.froz 1
      have f2 := HBW.out.froz 2
      simp only [List.getElem?_cons_zero, List.getElem?_cons_succ] at e0 e1 e2
      obtain ⟨PX, VX, hxx⟩ := hx
      have HXX := hid hxx
      have HOW := hid HO5.out
      clear hxx hol
      go_wp2_with fail
      have hB2 := ((HBW.out.set 0 (.int .i64 0)).set 1 (.int .i64 0)).set 2 (.int .i64 0)
      have g0 := hB2.cell 0
      have g1 := hB2.cell 1
      have g2 := hB2.cell 2
      simp only [List.set_cons_zero, List.set_cons_succ, List.getElem?_cons_zero, List.getElem?_cons_succ] at g0 g1 g2
      refine bodyPost_ret (v := chV 0 0 0) ?_ rfl ⟨⟨⟨_, _, _, rfl⟩, PX, VX, ?_⟩, ?_⟩
      · simp [results, Tryd.f73, go_sem, g0, g1, g2, chV]
      · exact ⟨((HXX.out.c.other _ _ hnxb).other _ _ hnxb).other _ _ hnxb, ((HXX.out.mt.other _ _ (by simp; omega)).other _ _ (by simp; omega)).other _ _ (by simp; omega), HXX.out.ok, HXX.out.le, HXX.out.sz⟩
      · exact ((HOW.out.set (.inr (Nat.le_refl _)) _).set (.inr (Nat.le_refl _)) _).set (.inr (Nat.le_refl _)) _
theorem charR_r {w : World} {xb mb : Nat} {s : ByteArray} {p : Nat} {v : Value} {m : M} (h : Rq w xb mb s p v m) :
    Calls Tryd.prog 73 #[.pointer (some ⟨xb, 0, none⟩)] w fun e w' => ((∃ i a b : Int, e = .returned (.agg #[.int .i64 i, .int .i64 a, .int .i64 b])) ∧ RX w' xb mb s m (m.why, 0)) ∧ Only [xb, mb] w w' := by
  by_cases hh : (rest s p).head? = some 38
  · exact charE_r h hh
  · exact charP_r h hh
end Go.Proofs.YthlbbinlkmchjaaDoor
namespace Go.Proofs.YthlbbinlkmchjaaDoor
open Go.RowKit

set_option maxRecDepth 100000 in
set_option maxHeartbeats 16000000 in
theorem textx_r {w : World} {xb mb : Nat} {s : ByteArray} {p : Nat} {v : Value} {m : M} (h : Rq w xb mb s p v m) (hhd : ¬ (rest s p).head? = some 60) :
    Calls Tryd.prog 52 #[.pointer (some ⟨xb, 0, none⟩)] w fun e w' => e = .returned (.tuple #[]) ∧ RX w' xb mb s m (m.why, 0) ∧ Only [xb, mb] w w' := by
  have HS := hid h
  have hlt := h.rs.c.lt
  have hltm := h.rs.mt.lt
  have c2 : w.cell? ⟨xb, 2, none⟩ = some (.int .i64 p) := h.rs.c.cell 2
  have hszs := h.rs.sz
  have hqs := h.lt
  have hh := byte_rest s p hqs
  obtain ⟨b, hb⟩ : ∃ b, s[p]'hqs = b := ⟨_, rfl⟩
  rw [hb] at hh
  have h60 : ¬ b.toNat = 60 := fun e => hhd (by rw [hh, e])
  have heI : ¬ (b.toNat : Int) = 60 := by omega
  have heB : ((b.toNat : Int) == 60) = false := by simpa using heI
  have heB2 : ((b.toNat : Int) != 60) = true := by simpa using heI
  have hqI : (p : Int) < (s.size : Int) := by omega
  obtain ⟨i50, hi50, z500, z501, z502⟩ := info_parts info50
  clear h hhd hh h60 heI
  go_enter Tryd.func52, Tryd.ntmps52
  go_wp2
  obtain ⟨W0, hW0⟩ : ∃ W0, w.alloc (.cells #[.int .i64 5, .int .i64 p, .int .i64 0, .string ⟨#[]⟩, .string ⟨#[]⟩, .slice none 0 0, .bool false] 48) = W0 := ⟨_, rfl⟩
  have HT0 := hid (show Blk W0 w.heap.size [.int .i64 5, .int .i64 p, .int .i64 0, .string ⟨#[]⟩, .string ⟨#[]⟩, .slice none 0 0, .bool false] 48 by rw [← hW0]; exact Blk.new w #[.int .i64 5, .int .i64 p, .int .i64 0, .string ⟨#[]⟩, .string ⟨#[]⟩, .slice none 0 0, .bool false] 48 rfl)
  have HS0 := hid (show Rq W0 xb mb s p v m by rw [← hW0]; exact HS.out.still ((Only.refl [] w).alloc _))
  have HO0 := hid (show Only [] w W0 by rw [← hW0]; exact (Only.refl [] w).alloc _)
  rw [hW0]
  clear hW0 c2
  go_loopw [] (fun wr => wr = W0 ∨ ∃ (ad : Option Addr) (n cap : Nat), Blk wr w.heap.size [.int .i64 5, .int .i64 p, .int .i64 0, .string ⟨#[]⟩, .string ⟨#[]⟩, .slice ad n cap, .bool false] 48 ∧ RX wr xb mb s m (m.why, 0) ∧ Only [xb, mb] w wr) (fun wr => match wr.cell? ⟨xb, 6, none⟩ with | some (.bool false) => 1 | _ => 0)
  case atStart => exact .inl rfl
  case round =>
    rcases hrel with rfl | ⟨ad, n, cap, hT, hx, hw⟩
    · have d1 : wr.cell? ⟨xb, 1, none⟩ = some (.string s) := HS0.out.rs.c.cell 1
      have d2 : wr.cell? ⟨xb, 2, none⟩ = some (.int .i64 (p : Int)) := HS0.out.rs.c.cell 2
      have HM1 : Hid ((match wr.cell? ⟨xb, 6, none⟩ with | some (.bool false) => 1 | _ => 0) = 1) := hid (by rw [HS0.out.rs.c.cell 6]; rfl)
      have HMQ := hid (fun n => more_c (HS0.out.still (only_drewN wr n)).rs)
      simp only [Bool.not_false, Bool.true_and] at HMQ
      rw [decide_eq_true hqs] at HMQ
      go_wp2
      go_quiet ((first | (go_at_call 51; exact Calls.quiet_of (HMQ.out _))))
      obtain ⟨W1, hW1⟩ : ∃ W1, wr.drewN nq = W1 := ⟨_, rfl⟩
      have HT1 := hid (show Blk W1 w.heap.size [.int .i64 5, .int .i64 p, .int .i64 0, .string ⟨#[]⟩, .string ⟨#[]⟩, .slice none 0 0, .bool false] 48 by rw [← hW1]; exact HT0.out.drewN nq)
      have HQ1 := hid (show Rq W1 xb mb s p v m by rw [← hW1]; exact HS0.out.still (only_drewN _ nq))
      have HO1 := hid (show Only [] w W1 by rw [← hW1]; exact HO0.out.trans (only_drewN _ nq))
      have HR1 := hid (World.ownsRow_nil W1 w.heap.size 50 3)
      rw [hW1]
      clear hW1
      have t5 : W1.cell? ⟨w.heap.size, 5, none⟩ = some (.slice none 0 0) := HT1.out.cell 5
      have ha1 : 0 + 1 ≤ maxLen := by decide
      have ha2 : (0 + 1) * 24 ≤ 140737488355328 := by decide
      have mf : Tryd.prog.follows .mixedOrders = true := by kernel_rfl
      have HCH := hid (fun W (h : Rq W xb mb s p v m) => charR_r h)
      go_wp2_with fail
      go_region_law
        (first
          | (refine step_append_sl _ rfl _ _ 44 rfl w.heap.size 50 i50 _ 3 24 Tryd.underlying44 hi50 z500 z501 z502 rfl (by decide) (.slice none 0 0) 0 [] (by rfl) HRA.out (some ⟨w2.heap.size, 0, none⟩) 1 1 [.int .i64 i, .int .i64 a1, .int .i64 b1] (by rfl) (by rfl) (sl_newest w2 [.int .i64 i, .int .i64 a1, .int .i64 b1] 50 rfl) hone3 ha1 ha2 hge3 ?_; intro v' w6 hown hgrew; obtain ⟨ad', cap', rfl, -, -⟩ := row_reads hown; have HT6 : Hid (Blk w6 w.heap.size [.int .i64 5, .int .i64 p, .int .i64 0, .string ⟨#[]⟩, .string ⟨#[]⟩, .slice none 0 0, .bool false] 48) := hid ((hgrew.grown.block w.heap.size HTA.out.lt (fun e => row_not HRA.out HTA.out (by decide) e.symm)).trans HTA.out); have HR6 := hid hown; have HG6 := hid hgrew; clear hown hgrew; have d5 : w6.cell? ⟨w.heap.size, 5, none⟩ = some (.slice none 0 0) := HT6.out.cell 5; have f5 := HT6.out.froz 5)
          | (go_simp; go_at_call 73; refine (HCH.out _ (HQ1.out.still ((Only.refl [] W1).drew))).mono ?_; rintro e w2 ⟨⟨⟨i, a1, b1, rfl⟩, hx⟩, hol⟩; have HOL := hid (Only.trans ((Only.refl [xb, mb] W1).drew) hol); have HX2 := hid hx; clear hx hol; have HT2 := hid (HOL.out.blk HT1.out (by simp; omega)); have HR2 := hid (row_only HR1.out HOL.out (by intro b hb hm; cases hb)); have HRA := hid (row_only HR2.out ((Only.refl [] w2).alloc (.cells #[.int .i64 i, .int .i64 a1, .int .i64 b1] 50)) (by simp)); have HTA := hid (HT2.out.alloc (.cells #[.int .i64 i, .int .i64 a1, .int .i64 b1] 50)); have t52 : w2.cell? ⟨w.heap.size, 5, none⟩ = some (.slice none 0 0) := HT2.out.cell 5; have t53 : (w2.alloc (.cells #[.int .i64 i, .int .i64 a1, .int .i64 b1] 50)).cell? ⟨w.heap.size, 5, none⟩ = some (.slice none 0 0) := HTA.out.cell 5; have hge3 : w.heap.size ≤ (w2.alloc (.cells #[.int .i64 i, .int .i64 a1, .int .i64 b1] 50)).heap.size := (by have := HT2.out.lt; simp; omega); have hone3 : ∀ u ∈ ([.int .i64 i, .int .i64 a1, .int .i64 b1] : List Value), u.oneCell' = true := (by intro u hu; simp at hu; rcases hu with rfl | rfl | rfl <;> rfl); dsimp only))
      all_goals
        go_wp2
        have HF : Hid (RX (w6.setCell ⟨w.heap.size, 5, none⟩ (.slice ad' (0 + 1) cap')) xb mb s m (m.why, 0) ∧ Only [xb, mb] w (w6.setCell ⟨w.heap.size, 5, none⟩ (.slice ad' (0 + 1) cap'))) := hid (by
          obtain ⟨pp, vv, hxx⟩ := HX2.out
          have hoA : Only [xb, mb] w w6 := ((Only.behind HO1.out HOL.out).alloc _).fresh (only_grown HG6.out.grown) (fun j hj hlt => by cases mem_ob.1 hj)
          exact ⟨⟨pp, vv, RS.only (L := [w.heap.size]) (RS.only (L := ob (.slice none 0 0)) (hxx.still ((Only.refl [] w2).alloc _)) (only_grown HG6.out.grown) (fun hm => by cases mem_ob.1 hm) (fun hm => by cases mem_ob.1 hm)) ((Only.refl [w.heap.size] w6).set (p := ⟨w.heap.size, 5, none⟩) (.inl (by simp)) _) (by simp; omega) (by simp; omega)⟩, hoA.set (p := ⟨w.heap.size, 5, none⟩) (.inr (Nat.le_refl _)) _⟩)
        go_roundw
        case rel => exact .inr ⟨ad', 0 + 1, cap', HT6.out.set 5 _, HF.out.1, HF.out.2⟩
        case measure =>
          obtain ⟨pp, vv, hxx⟩ := HF.out.1
          have e6 := hxx.c.cell 6
          simp only [List.getElem?_cons_zero, List.getElem?_cons_succ] at e6
          rw [HM1.out]
          simp only [Nat.zero_add] at e6
          rw [e6]
          exact Nat.zero_lt_one
    · have HT := hid hT
      have HX := hid hx
      have HW := hid hw
      obtain ⟨pp, vv, hxx⟩ := hx
      have HXX := hid hxx
      have HMQ := hid (fun n => more_c (HXX.out.still (only_drewN wr n)))
      simp only [Bool.not_true, Bool.false_and] at HMQ
      clear hT hw hxx
      go_wp2
      go_quiet ((first | (go_at_call 51; exact Calls.quiet_of (HMQ.out _))))
      obtain ⟨W1, hW1⟩ : ∃ W1, wr.drewN nq = W1 := ⟨_, rfl⟩
      have HT1 := hid (show Blk W1 w.heap.size [.int .i64 5, .int .i64 p, .int .i64 0, .string ⟨#[]⟩, .string ⟨#[]⟩, .slice ad n cap, .bool false] 48 by rw [← hW1]; exact HT.out.drewN nq)
      have b0 := HT1.out.cell 0
      have b1 := HT1.out.cell 1
      have b2 := HT1.out.cell 2
      have b3 := HT1.out.cell 3
      have b4 := HT1.out.cell 4
      have b5 := HT1.out.cell 5
      have b6 := HT1.out.cell 6
      simp only [List.getElem?_cons_zero, List.getElem?_cons_succ] at b0 b1 b2 b3 b4 b5 b6
      have HX1 := hid (show RS W1 xb mb s pp vv (m.why, 0) true m by rw [← hW1]; exact HXX.out.still (only_drewN _ nq))
      have HW1 := hid (show Only [xb, mb] w W1 by rw [← hW1]; exact HW.out.drewN nq)
      have HPT := hid (put_no HX1.out 5 p 0 ⟨#[]⟩ ⟨#[]⟩ false (.slice ad n cap) ⟨_, _, _, rfl⟩)
      rw [hW1]
      clear hW1
      go_wp2_with fail
      refine HPT.out.mono ?_
      rintro e w2 ⟨rfl, h1⟩
      have HRES := hid (And.intro (⟨pp, vv, HX1.out.still h1⟩ : RX w2 xb mb s m (m.why, 0)) (HW1.out.trans (h1.mono (by simp))))
      clear h1
      go_wp2
      exact bodyPost_end (results_none (fn := Tryd.f52) rfl _ _ _) rfl ⟨rfl, HRES.out.1, HRES.out.2⟩

set_option maxRecDepth 100000 in
set_option maxHeartbeats 16000000 in
theorem scanR_r {w0 : World} {mb : Nat} {s : ByteArray} {m : M} (hm : Blk w0 mb m.rcells 84) (hok : m.Ok) (hw : m.why ≠ 0) (hs : s.size ≤ 4294967296) (hp : 0 < s.size) :
    Calls Tryd.prog 31 #[.pointer (some ⟨mb, 0, none⟩), .string s] w0 fun e w' => RefPost w0 w' mb (m, .error (m.why, 0)) e := by
  have hlt := hm.lt
  have HMB := hid hm
  have HLT := hid hlt
  clear hm hlt
  have hh := byte_rest s 0 hp
  obtain ⟨b, hb⟩ : ∃ b, s[0]'hp = b := ⟨_, rfl⟩
  rw [hb] at hh
  have HHD := hid hh
  clear hh
  go_enter Tryd.func31, Tryd.ntmps31
  go_wp2_with fail
  obtain ⟨W5, hW5⟩ : ∃ W5, w0.alloc (.cells #[.int .i64 0, .int .i64 0] 35) = W5 := ⟨_, rfl⟩
  obtain ⟨rb, hrb⟩ : ∃ rb, w0.heap.size = rb := ⟨_, rfl⟩
  obtain ⟨xb, hxb⟩ : ∃ xb, rb + 1 = xb := ⟨_, rfl⟩
  obtain ⟨W6, hW6⟩ : ∃ W6, W5.alloc (.cells #[.pointer (some ⟨mb, 0, none⟩), .string s, .int .i64 0, .slice none 0 0, .int .i64 0, .int .i64 0, .bool false] 89) = W6 := ⟨_, rfl⟩
  have hsz5 : W5.heap.size = xb := by rw [← hW5, ← hxb, ← hrb]; simp
  have HSC := hid (show Rq W6 xb mb s 0 (.slice none 0 0) m by
    rw [← hW6]
    refine ⟨⟨?_, ?_, hok, by omega, hs⟩, hw, hp⟩
    · exact Blk.new _ _ 89 hsz5
    · rw [← hW5]; exact (HMB.out.alloc _).alloc _)
  have HB5 := hid (show Blk W5 rb [.int .i64 0, .int .i64 0] 35 by rw [← hW5]; exact Blk.new w0 #[.int .i64 0, .int .i64 0] 35 hrb)
  have HO5 := hid (show Only [] w0 W5 by rw [← hW5]; exact (Only.refl [] w0).alloc _)
  have HO6 := hid (show Only [] W5 W6 by rw [← hW6]; exact (Only.refl [] W5).alloc _)
  have HRB := hid hrb
  have HXB := hid (show rb < xb ∧ mb < rb ∧ W5.heap.size = xb by have := HLT.out; omega)
  rw [hW5, hW6, hrb, hxb]
  clear hW5 hW6 hrb hxb hsz5
  go_loopw [] (fun wr => wr = W6 ∨ RX wr xb mb s m (m.why, 0) ∧ Only [mb] W5 wr) (fun wr => match wr.cell? ⟨xb, 6, none⟩ with | some (.bool false) => 1 | _ => 0)
  case atStart => exact .inl rfl
  case round =>
    rcases hrel with rfl | ⟨hx, hwo⟩
    · have HM := hid (more_c HSC.out.rs)
      simp only [Bool.not_false, Bool.true_and] at HM
      rw [decide_eq_true hp] at HM
      have hqI : (0 : Int) < (s.size : Int) := by omega
      have HM1 : Hid ((match wr.cell? ⟨xb, 6, none⟩ with | some (.bool false) => 1 | _ => 0) = 1) := hid (by rw [HSC.out.rs.c.cell 6]; rfl)
      have HMEAS : Hid (∀ W', RX W' xb mb s m (m.why, 0) → (match W'.cell? ⟨xb, 6, none⟩ with | some (.bool false) => 1 | _ => 0) = 0) := hid (by
        rintro W' ⟨pp, vv, hxx⟩
        rw [hxx.c.cell 6]; rfl)
      go_wp2_with fail
      refine HM.out.mono ?_
      rintro e w2 ⟨rfl, n2, rfl⟩
      obtain ⟨W2, hW2⟩ : ∃ W2, wr.drewN n2 = W2 := ⟨_, rfl⟩
      have HS2 := hid (show Rq W2 xb mb s 0 (.slice none 0 0) m by rw [← hW2]; exact HSC.out.still (only_drewN _ _))
      have HO2 := hid (show Only [] W5 W2 by rw [← hW2]; exact HO6.out.trans (only_drewN _ _))
      rw [hW2]
      clear hW2
      have c1 : W2.cell? ⟨xb, 1, none⟩ = some (.string s) := HS2.out.rs.c.cell 1
      have c2 : W2.cell? ⟨xb, 2, none⟩ = some (.int .i64 0) := HS2.out.rs.c.cell 2
      have HFIN : Hid (∀ W', Only [xb, mb] W2 W' → Only [mb] W5 W') := hid (fun W' ho => (HO2.out.mono (by simp)).fresh ho (fun i hi hlt => by
        have := HXB.out
        simp at hi ⊢
        omega))
      by_cases h60 : b.toNat = 60
      · have heI : (b.toNat : Int) = 60 := by omega
        have heB : ((b.toNat : Int) == 60) = true := by simpa using heI
        have heB2 : ((b.toNat : Int) != 60) = false := by simp [heI]
        clear h60 heI
        go_wp2
        go_quiet (fail)
        go_wp2_with fail
        refine (take_r (HS2.out.still (only_drewN _ _))).mono ?_
        rintro e w4 ⟨rfl, hx4, ho4⟩
        have HOW := hid (Only.behind (only_drewN W2 _) ho4)
        obtain ⟨pp, vv, hrs⟩ := hx4
        have HRS := hid hrs
        have HIS := hid (is_c hrs 47 (by decide))
        clear hrs ho4
        go_wp2_with fail
        refine HIS.out.mono ?_
        rintro e w5 ⟨rfl, n5, rfl⟩
        simp only [Bool.not_true, Bool.false_and]
        go_wp2_with fail
        refine (openx_no (HRS.out.still (only_drewN w4 n5)) 0).mono ?_
        rintro e w6 ⟨rfl, hx6, hol6⟩
        have HX6 := hid hx6
        have HO6' := hid (HFIN.out _ ((HOW.out.trans ((only_drewN w4 n5).mono (by simp))).trans (hol6.mono (by simp))))
        clear hx6 hol6
        go_wp2
        go_roundw
        case rel => exact .inr ⟨HX6.out, HO6'.out⟩
        case measure =>
          rw [HM1.out, HMEAS.out _ HX6.out]
          exact Nat.zero_lt_one
      · have HNO := hid (show ¬ (rest s 0).head? = some 60 by
          rw [HHD.out]
          intro e
          exact h60 (Option.some.inj e))
        have heI : ¬ (b.toNat : Int) = 60 := by omega
        have heB : ((b.toNat : Int) == 60) = false := by simpa using heI
        have heB2 : ((b.toNat : Int) != 60) = true := by simpa using heI
        clear h60 heI
        go_wp2
        go_quiet (fail)
        go_wp2_with fail
        refine (textx_r (HS2.out.still (only_drewN _ _)) HNO.out).mono ?_
        rintro e w4 ⟨rfl, hx4, ho4⟩
        have HX4 := hid hx4
        have HO4 := hid (HFIN.out _ (Only.behind (only_drewN W2 _) ho4))
        clear hx4 ho4
        go_wp2
        go_roundw
        case rel => exact .inr ⟨HX4.out, HO4.out⟩
        case measure =>
          rw [HM1.out, HMEAS.out _ HX4.out]
          exact Nat.zero_lt_one
    · -- wrong
      obtain ⟨pp, vv, hrs⟩ := hx
      have HRS := hid hrs
      have HWO := hid hwo
      have HM := hid (more_c hrs)
      simp only [Bool.not_true, Bool.false_and] at HM
      clear hrs hwo
      go_wp2_with fail
      refine HM.out.mono ?_
      rintro e w2 ⟨rfl, n2, rfl⟩
      obtain ⟨W2, hW2⟩ : ∃ W2, wr.drewN n2 = W2 := ⟨_, rfl⟩
      have H1 := hid (show RS W2 xb mb s pp vv (m.why, 0) true m by rw [← hW2]; exact HRS.out.still (only_drewN _ _))
      have H3 := hid (show Only [mb] W5 W2 by rw [← hW2]; exact HWO.out.trans ((only_drewN wr n2).mono (by simp)))
      rw [hW2]
      clear hW2
      have hk5 := H3.out.blk HB5.out (by have := HXB.out; simp; omega)
      have HK5 := hid hk5
      have f0 := hk5.froz 0
      have f1 := hk5.froz 1
      have e0 := hk5.cell 0
      have e1 := hk5.cell 1
      simp only [List.getElem?_cons_zero, List.getElem?_cons_succ] at e0 e1
      have c4 : W2.cell? ⟨xb, 4, none⟩ = some (.int .i64 m.why) := H1.out.c.cell 4
      have c5 : W2.cell? ⟨xb, 5, none⟩ = some (.int .i64 0) := H1.out.c.cell 5
      have c6 : W2.cell? ⟨xb, 6, none⟩ = some (.bool true) := H1.out.c.cell 6
      clear hk5
      go_wp2_with fail
      go_region
      go_wp2_with fail
      have hB2 := ((HK5.out.set 0 (.int .i64 m.why)).set 1 (.int .i64 0)).drew
      have g0 := hB2.cell 0
      have g1 := hB2.cell 1
      simp only [List.set_cons_zero, List.set_cons_succ, List.getElem?_cons_zero, List.getElem?_cons_succ] at g0 g1
      have hOn : Only [rb] W2 ((W2.setCell ⟨rb, 0, none⟩ (.int .i64 m.why)).setCell ⟨rb, 1, none⟩ (.int .i64 0)).drew := (((Only.refl _ _).set (p := ⟨rb, 0, none⟩) (.inl (by simp)) _).set (p := ⟨rb, 1, none⟩) (.inl (by simp)) _).drew
      refine bodyPost_ret (v := .tuple #[nilS, .agg #[.int .i64 m.why, .int .i64 0]]) ?_ rfl ⟨nilS, [], (m.why, 0), rfl, ?_, ?_, ?_, ?_, ?_⟩
      · simp [results, Tryd.f31, go_sem, g0, g1, nilS]
      · exact ⟨World.ownsRow_nil _ _ _ _, fun x hx => (by cases hx), List.nodup_nil⟩
      · exact hOn.blk H1.out.mt (by have := HXB.out; simp; omega)
      · exact H1.out.ok
      · exact (((Only.behind HO5.out H3.out).set (p := ⟨rb, 0, none⟩) (.inr (by have := HRB.out; simp; omega)) _).set (p := ⟨rb, 1, none⟩) (.inr (by have := HRB.out; simp; omega)) _).drew
      · exact ⟨rfl, rfl, rfl⟩
end Go.Proofs.YthlbbinlkmchjaaDoor
