/- Print: the program's. -/
import Derived.Test.YtmlhibcbgdhadaaDoorWrt
namespace Go.Proofs.YtmlhibcbgdhadaaDoor
open Go.RowKit

theorem clos_sub (ns : List Nd) (p : Int) : ∀ l : List Nat, ∀ i ∈ (clos ns p l).1, i ∈ l
  | [] => by simp [clos]
  | t :: r => by
    have h1 := clos_sub ns p r
    unfold clos
    split
    · intro i hi; exact hi
    · intro i hi; exact List.mem_cons_of_mem _ (h1 i hi)
theorem clos_short (ns : List Nd) (p : Int) : ∀ l : List Nat, (clos ns p l).1.length ≤ l.length
  | [] => by simp [clos]
  | t :: r => by
    have h1 := clos_short ns p r
    unfold clos
    split
    · exact Nat.le_refl _
    · simp only [List.length_cons]; omega
theorem runP_elems {ns : List Nd} : ∀ n, Gd ns n → ∀ i ∈ (runP ns n).1, i < n ∧ 1 ≤ nk ns i ∧ nk ns i ≤ 3
  | 0, _ => by simp [runP]
  | n + 1, hg => by
    have h1 := runP_elems n (hg.mono (Nat.le_succ _))
    intro i hi
    have key : i ∈ (clos ns (np ns n) (runP ns n).1).1 → i < n + 1 ∧ 1 ≤ nk ns i ∧ nk ns i ≤ 3 := fun h => by
      have := h1 i (clos_sub _ _ _ i h); exact ⟨by omega, this.2⟩
    unfold runP at hi
    dsimp only at hi
    split at hi
    · exact key hi
    · next h45 =>
      rcases List.mem_cons.1 hi with rfl | hi
      · have := plc_kind (ok_plc (hg i (Nat.lt_succ_self _)))
        exact ⟨Nat.lt_succ_self _, by omega, by omega⟩
      · exact key hi
theorem runP_op_len (ns : List Nd) : ∀ n, (runP ns n).1.length ≤ n
  | 0 => by simp [runP]
  | n + 1 => by
    have h1 := runP_op_len ns n
    have h2 := clos_short ns (np ns n) (runP ns n).1
    unfold runP
    dsimp only
    split
    · omega
    · simp only [List.length_cons]; omega
theorem opn_run (ns : List Nd) (n : Nat) : opn (nd ns n) n (clos ns (np ns n) (runP ns n).1).1.reverse = (runP ns (n + 1)).1.reverse := by
  unfold opn
  conv => rhs; unfold runP
  dsimp only
  show (if nk ns n = 4 ∨ nk ns n = 5 then _ else _) = _
  split
  · rfl
  · rw [List.reverse_cons]
theorem sumC_mono {ns : List Nd} {n : Nat} : sumC ns n ≤ sumC ns ns.length := by
  unfold sumC
  rw [List.take_length]
  conv => rhs; rw [← List.take_append_drop n ns, List.map_append, List.sum_append]
  omega
/-- what Print answers -/
def prtV (ns : List Nd) : Value := if (chkN ns).2 = 0 then .tuple #[.string (strN (prt ns)), .int .i64 0] else .tuple #[.string ⟨#[]⟩, .int .i64 (chkN ns).2]
theorem prt_ne {ns : List Nd} (hd : Doc ns) : prt ns ≠ [] := by
  obtain ⟨_, h0, hg⟩ := hd
  intro he
  have h1 : ∀ n, 0 < n → n ≤ ns.length → (runP ns n).2 ≠ [] := by
    intro n
    induction n with
    | zero => intro h; omega
    | succ n ih =>
      intro _ hn hz
      unfold runP at hz
      dsimp only at hz
      simp only [List.append_eq_nil_iff] at hz
      rcases Nat.eq_zero_or_pos n with e | e
      · subst e
        have hk := (plc_zero (ok_plc (hg 0 (by omega)))).1
        have : itemB (nd ns 0) = tagB (nd ns 0) := by
          unfold itemB
          rw [if_neg (by show ¬ nk ns 0 = 4; omega), if_neg (by show ¬ nk ns 0 = 5; omega)]
        rw [this] at hz
        unfold tagB at hz
        simp at hz
      · exact ih e (by omega) hz.1.1
  unfold prt at he
  exact h1 ns.length (by omega) (Nat.le_refl _) (List.append_eq_nil_iff.1 he).1

set_option maxRecDepth 100000 in
set_option maxHeartbeats 8000000 in
theorem print_c {xs : List (Nd × Value)} {ad : Option Addr} {cap C : Nat} (hlen : xs.length ≤ 4294967296) (hf : ∀ x ∈ xs, Fit x.1) (hsum : sumC (nds xs) (nds xs).length ≤ 4294967296) (w : World) (hNL : NL w C ad xs) (hC : C ≤ w.heap.size) (hT : Tt w) :
    Calls Tryd.prog 13 #[.slice ad xs.length cap] w fun e w' => e = .returned (prtV (nds xs)) ∧ Below w.heap.size w w' := by
  have HCK := hid (check_any (cap := cap) hlen hf w hNL hC hT)
  have HNL := hid hNL
  have HT := hid hT
  have HC := hid hC
  have hNn : (nds xs).length = xs.length := by simp
  by_cases hd0 : (chkN (nds xs)).2 = 0
  · have hd := chk_doc.1 hd0
    have HP : Hid (prtV (nds xs) = .tuple #[.string (strN (prt (nds xs))), .int .i64 0]) := by show _ = _; unfold prtV; rw [if_pos hd0]
    have hck : chkN (nds xs) = (0, 0) := chk_right hd.1 hd.2.1 hd.2.2
    rw [hck] at HCK
    unfold chkV at HCK
    dsimp only at HCK
    have h5 : 5 ≤ w.heap.size := hT.tc.sz
    have hN8 : xs.length ≤ 8192 := hNn ▸ hd.1
    have HD := hid hd
    have HF := hid hf
    have HS := hid hsum
    have HNN := hid hNn
    obtain ⟨N, hN⟩ : ∃ N, xs.length = N := ⟨_, rfl⟩
    have HN := hid hN
    have hbl : ∀ k, k ≤ N → (runP (nds xs) k).2.length ≤ 34359738368 ∧ (runP (nds xs) k).1.length ≤ 8192 := fun k hk => by
      have a := runP_len k (by rw [hNn, hN]; exact hk) (hd.2.2.mono (by rw [hNn, hN]; exact hk))
      have c := sumC_mono (ns := nds xs) (n := k)
      have d := runP_op_len (nds xs) k
      omega
    have HBL := hid hbl
    rw [hN] at HCK hN8 ⊢
    have hn8 : (N : Int) ≤ 8192 := by omega
    clear hNL hT hC hlen hf hsum hd0 hd hck hN hNn hbl
    go_enter Tryd.func13, Tryd.ntmps13
    go_wp2_with fail
    refine HCK.out.mono ?_
    rintro e w1 ⟨rfl, ho1⟩
    have HO1 := hid ho1
    clear ho1
    go_wp2_with fail
    obtain ⟨W1, hW1⟩ : ∃ W1, w1.alloc (.cells #[.slice ad N cap, .slice none 0 0, .pointer none, .slice none 0 0] 54) = W1 := ⟨_, rfl⟩
    have hb1 : Blk W1 w1.heap.size [.slice ad N cap, .slice none 0 0, .pointer none, .slice none 0 0] 54 := by rw [← hW1]; exact Blk.new w1 #[.slice ad N cap, .slice none 0 0, .pointer none, .slice none 0 0] 54 rfl
    have HOW : Hid (Only [] w W1) := by show Only _ _ _; rw [← hW1]; exact HO1.out.alloc _
    have HBW : Hid (WB W1 w1.heap.size w.heap.size (.slice ad N cap) (.slice none (([] : List Nat).length) 0) (.slice none 0 0) (.pointer none) []) :=
      ⟨hb1, .inl rfl, World.ownsRow_nil _ _ _ _, HO1.out.size, by have := HOW.out.size; exact this⟩
    have hwz : w.heap.size ≤ w1.heap.size := HO1.out.size
    rw [hW1]
    clear hb1 hW1
    obtain ⟨wb, hwb⟩ : ∃ wb, w1.heap.size = wb := ⟨_, rfl⟩
    rw [hwb] at HBW hwz ⊢
    clear hwb
    go_loopw [21] (fun i wr => ∃ k : Nat, i = .int .i64 k ∧ k ≤ N ∧ Hid (∃ oa oc bv p, WB wr wb w.heap.size (.slice ad N cap) (.slice oa (runP (nds xs) k).1.reverse.length oc) bv p (runP (nds xs) k).2 ∧ RI wr w.heap.size (.slice oa (runP (nds xs) k).1.reverse.length oc) (runP (nds xs) k).1.reverse) ∧ Hid (FrT [54, 5, 3] w.heap.size w wr)) (fun i _ => N - (RowKit.intOf i).toNat)
    case atStart => exact ⟨0, rfl, by omega, ⟨none, 0, _, _, HBW.out, World.ownsRow_nil _ _ _ _⟩, FrT.still HOW.out⟩
    case round =>
      obtain ⟨k, rfl, hk, hst, hfr⟩ := hrel
      obtain ⟨oa, oc, bv, p, hw, hri⟩ := hst.out
      have hbel : Below w.heap.size w wr := hfr.out.below (Nat.le_refl _)
      have hNLr := HNL.out.below hbel HC.out
      have hTr : Tt wr := HT.out.below hbel h5
      obtain ⟨hb1, hb2⟩ := HBL.out k hk
      have hgk : Gd (nds xs) k := HD.out.2.2.mono (by rw [HNN.out, HN.out]; exact hk)
      have hel : ∀ i ∈ (runP (nds xs) k).1.reverse, i < xs.length ∧ 1 ≤ nk (nds xs) i ∧ nk (nds xs) i ≤ 3 := fun i hi => by
        have := runP_elems k hgk i (by simpa using hi)
        exact ⟨by rw [HN.out]; omega, this.2⟩
      have HCL := hid (fun q => close_c (xs := xs) (cap := cap) q (by rw [HN.out]; exact hw) hri hNLr HC.out hTr h5 hel (by simpa using hb2) (by omega))
      simp only [List.reverse_reverse] at HCL
      rw [HN.out] at HCL
      by_cases hlt : k < N
      · obtain ⟨x, hx⟩ := some_at (xs := xs) (i := k) (by rw [HN.out]; exact hlt)
        obtain ⟨b, off, rfl, hbC, hbw, hcx⟩ := hNLr.at_ hx
        have cp := hcx 1 _ rfl
        have hpx := np_of (nds_get hx)
        rw [← hpx] at cp
        have hkl : (k : Int) < (N : Int) := by omega
        have hk0 : (0 : Int) ≤ (k : Int) := by omega
        have HLT := hid hlt
        have hok : ok (nds xs) k = true := HD.out.2.2 k (by rw [HNN.out, HN.out]; exact hlt)
        have HND := hid (fun W (hfr : FrT [54, 5, 3] w.heap.size w W) oa oc bv p l bs (hw : WB W wb w.heap.size (.slice (some ⟨b, off, none⟩) xs.length cap) (.slice oa l.length oc) bv p bs) (hri : RI W w.heap.size (.slice oa l.length oc) l) (h1 : l.length ≤ 8192) (h2 : bs.length ≤ 8796093022208) => node_c (n := k) hw hri (HNL.out.below (hfr.below (Nat.le_refl _)) HC.out) (HT.out.below (hfr.below (Nat.le_refl _)) h5) h5 (by rw [HN.out]; exact HLT.out) hok HF.out (by rw [HN.out]; exact hN8) h1 h2)
        rw [HN.out] at HND
        have HFR := hfr
        have HB := hid (And.intro hb1 hb2)
        clear hw hri hbel hNLr hTr hb1 hb2 hgk hel hx hcx hpx hlt hok hst
        obtain ⟨q, hq⟩ : ∃ q, np (nds xs) k = q := ⟨_, rfl⟩
        have HQ := hid hq
        rw [hq] at cp
        clear hq
        go_wp2_with fail
        refine (HCL.out q).mono ?_
        rintro e w2 ⟨rfl, q2⟩
        obtain ⟨oa2, oc2, bv2, p2, hw2, hri2⟩ := q2.st
        have hfr2 : FrT [54, 5, 3] w.heap.size w w2 := HFR.out.trans (q2.fr.mono (by simp))
        have HN2 := hid (HND.out w2 hfr2 oa2 oc2 bv2 p2 _ _ hw2 hri2 (by
          have := clos_short (nds xs) q (runP (nds xs) k).1
          have := HB.out.2
          rw [List.length_reverse]; omega) (by
          have := clos_len (nds xs) q (runP (nds xs) k).1
          have := HB.out.1
          have := HB.out.2
          rw [List.length_append]; omega))
        have HFR2 := hid hfr2
        clear q2 hw2 hri2 hfr2
        go_wp2_with fail
        refine HN2.out.mono ?_
        rintro e w3 ⟨rfl, q3⟩
        have HQ3 := hid q3
        clear q3
        go_wp2_with fail
        go_roundw
        case rel =>
          refine ⟨k + 1, by go_num, HLT.out, ?_, HFR2.out.trans HQ3.out.fr⟩
          obtain ⟨oa3, oc3, bv3, p3, hw3, hri3⟩ := HQ3.out.st
          rw [← HQ.out, opn_run] at hw3 hri3
          exact ⟨oa3, oc3, bv3, p3, hw3, hri3⟩
        case measure => have := HLT.out; simp [RowKit.intOf]; omega
      · have hkl : ¬ (k : Int) < (N : Int) := by omega
        have hkn : k = N := by omega
        subst hkn
        have HFR := hfr
        have hpl : (runP (nds xs) k).2 ++ (clos (nds xs) (-1) (runP (nds xs) k).1).2 = prt (nds xs) := by unfold prt; rw [HNN.out, HN.out]
        have HPL := hid hpl
        have HB := hid (And.intro hb1 hb2)
        clear hw hri hbel hNLr hTr hb1 hb2 hgk hel hlt hst hpl
        go_wp2_with fail
        refine (HCL.out (-1)).mono ?_
        rintro e w2 ⟨rfl, q2⟩
        obtain ⟨oa2, oc2, bv2, p2, hw2, hri2⟩ := q2.st
        have hl2 : (prt (nds xs)).length ≤ 35184372088832 := by
          rw [← HPL.out, List.length_append]
          have := clos_len (nds xs) (-1) (runP (nds xs) k).1
          have := HB.out.1
          have := HB.out.2
          omega
        rw [HPL.out] at hw2
        have HST := hid (string_c hw2 (prt_ne HD.out) (prt_lt _) hl2)
        have HFR2 : Hid (FrT [54, 5, 3] w.heap.size w w2) := HFR.out.trans (q2.fr.mono (by simp))
        clear q2 hw2 hri2
        go_wp2_with fail
        refine HST.out.mono ?_
        rintro e w3 ⟨rfl, q3⟩
        have HQ3 := hid q3
        clear q3
        go_wp2_with fail
        go_ret2
        rw [HP.out]
        exact ⟨rfl, (HFR2.out.below (Nat.le_refl _)).trans HQ3.out⟩
  · have HP : Hid (prtV (nds xs) = .tuple #[.string ⟨#[]⟩, .int .i64 (chkN (nds xs)).2]) := by show _ = _; unfold prtV; rw [if_neg hd0]
    unfold chkV at HCK
    obtain ⟨e, he⟩ : ∃ e, (chkN (nds xs)).2 = e := ⟨_, rfl⟩
    obtain ⟨q, hq⟩ : ∃ q, (chkN (nds xs)).1 = q := ⟨_, rfl⟩
    rw [he] at hd0 HP HCK
    rw [hq] at HCK
    have e0 : (e == 0) = false := by simpa using hd0
    have e1 : (e != 0) = true := by simpa using hd0
    clear he hq hd0 hNL hT hC hlen hf hsum hNn
    generalize xs.length = N at *
    go_enter Tryd.func13, Tryd.ntmps13
    go_wp2_with fail
    refine HCK.out.mono ?_
    rintro e w1 ⟨rfl, ho1⟩
    have HO1 := hid ho1
    clear ho1
    go_wp2_with fail
    go_ret2
    rw [HP.out]
    exact ⟨rfl, HO1.out.below⟩
end Go.Proofs.YtmlhibcbgdhadaaDoor
