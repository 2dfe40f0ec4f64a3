/- Same of any two rows of nodes, both ways: the walk. -/
import Derived.Test.YtmlhibcbgdhadaaDoorStl
import Derived.Test.YtmlhibcbgdhadaaDoorRefS
import Derived.Test.YtmlhibcbgdhadaaDoorBound
import Derived.Test.YtmlhibcbgdhadaaDoorNum
namespace Go.Proofs.YtmlhibcbgdhadaaDoor
open Go.RowKit

theorem sameN_comm (x y : Nd) : sameN x y = sameN y x := by
  unfold sameN runesB
  rw [Bool.eq_iff_iff]
  simp only [Bool.and_eq_true, beq_iff_eq, decide_eq_true_eq]
  constructor
  all_goals
    rintro ⟨⟨⟨⟨⟨⟨⟨⟨⟨⟨h0, h1⟩, h2⟩, h3⟩, h4⟩, h5⟩, h6⟩, h7⟩, h8⟩, h9⟩, h10⟩
    exact ⟨⟨⟨⟨⟨⟨⟨⟨⟨⟨h0.symm, h1.symm⟩, h2.symm⟩, h3.symm⟩, h4.symm⟩, h5.symm⟩, h6.symm⟩, h7.symm⟩, h8.symm⟩, h9.symm⟩, h10.symm⟩
theorem sameN_refl (x : Nd) : sameN x x = true := by unfold sameN runesB; simp
theorem sameL_refl (a : List Nd) : sameL a a = true := by
  unfold sameL
  simp [sameN_refl]
theorem sameL_comm (a b : List Nd) : sameL a b = sameL b a := by
  unfold sameL
  by_cases h : a.length = b.length
  · rw [h]
    simp only [decide_true, Bool.true_and]
    congr 1
    funext i
    exact sameN_comm _ _
  · rw [decide_eq_false h, decide_eq_false (fun e => h e.symm)]; rfl
/-- the copies' list, cut to the length that came in -/
theorem same_lent {w W : World} {B C xa aa ac xb ba bc : Nat} {va vb : Value} {ps qs : List Ln} {A E : List Nd} (ha : LM w B xa aa ac va ps) (hb : LM w C xb ba bc vb qs) (o : Only [] w W) (hA : ps.map (·.1) = A) (hE : qs.map (·.1) = E) (fa : ∀ x ∈ A, Fit x) (fe : ∀ x ∈ E, Fit x) {n m : Nat} (hn : ps.length = n) (hm : qs.length = m) (hln : n ≤ 4294967296) (hlm : m ≤ 4294967296) :
    Calls Tryd.prog 18 #[.slice (some ⟨aa, 0, none⟩) n ac, .slice (some ⟨ba, 0, none⟩) m bc] W fun e w' => e = .returned (.bool (sameL A E)) ∧ Only [] W w' := by
  have h1 := (ha.still o).nl
  have h2 := (hb.still o).nl
  have f1 : ∀ x ∈ ps.map ly, Fit x.1 := fun x hx => fa _ (by rw [← hA, ← ly_nds]; exact List.mem_map_of_mem (f := Prod.fst) hx)
  have f2 : ∀ x ∈ qs.map ly, Fit x.1 := fun x hx => fe _ (by rw [← hE, ← ly_nds]; exact List.mem_map_of_mem (f := Prod.fst) hx)
  have := treeSame_any (ac := ac) (bc := bc) W h1 h2 f1 f2 (by rw [List.length_map, hn]; exact hln) (by rw [List.length_map, hm]; exact hlm)
  rw [ly_nds, ly_nds, hA, hE, List.length_map, List.length_map, hn, hm] at this
  exact this
set_option maxRecDepth 100000 in
set_option maxHeartbeats 8000000 in
theorem same_law {a b : List (Nd × Value)} {ad bd : Option Addr} {ca cb : Nat} (w : World) (hA : NL w w.heap.size ad a) (hla : a.length ≤ 9223372036854775807) (hia : ∀ x ∈ a, In w x) (hB : NL w w.heap.size bd b) (hlb : b.length ≤ 9223372036854775807) (hib : ∀ x ∈ b, In w x) (hT : Tt w) :
    Calls Tryd.prog 4 #[.slice ad a.length ca, .slice bd b.length cb] w fun e w' => e = .returned (.bool true) ∧ Only [] w w' := by
  have HBA := hid (beyond_any (cap := ca) w hA hla (fun x hx => ⟨(hia x hx).font, (hia x hx).chs⟩))
  have HBB := hid (fun W (o : Only [] w W) => beyond_any (cap := cb) W (hB.still o) hlb (fun x hx => ⟨(hib x hx).font, (hib x hx).chs⟩))
  have HNA := hid hA
  have HNB := hid hB
  have HIA := hid hia
  have HIB := hid hib
  have HT := hid hT
  obtain ⟨n, hn⟩ : ∃ n, a.length = n := ⟨_, rfl⟩
  obtain ⟨m, hm⟩ : ∃ m, b.length = m := ⟨_, rfl⟩
  have HN := hid hn
  have HM := hid hm
  rw [hn] at hla HBA ⊢
  rw [hm] at hlb HBB ⊢
  clear hA hB hia hib hT hn hm
  go_enter Tryd.func4, Tryd.ntmps4
  go_wp2_with fail
  refine HBA.out.mono ?_
  rintro e w1 ⟨⟨r1, rfl, hr⟩, o1⟩
  have H1 := hid o1
  have HR1 := hid hr
  clear o1 hr HBA
  cases r1
  case true =>
    go_wp2_with fail
    go_ret
    exact ⟨rfl, H1.out⟩
  case false =>
    go_wp2_with fail
    refine (HBB.out _ H1.out).mono ?_
    rintro e w2 ⟨⟨r2, rfl, hr⟩, o⟩
    have H2 := hid (H1.out.trans o)
    have HR2 := hid hr
    clear o hr HBB
    cases r2
    case true =>
      go_wp2_with fail
      go_ret
      exact ⟨rfl, H2.out⟩
    case false =>
      have hba := HR1.out (by first | rfl | trivial)
      have hbb := HR2.out (by first | rfl | trivial)
      have lenA : (nds a).length = n := by rw [← HN.out]; simp
      have lenB : (nds b).length = m := by rw [← HM.out]; simp
      have KA : ∀ x ∈ nds a, x.chs.length + x.font.size ≤ 2147483647 := fun x hx => by have := bulk_mem hx; rw [lenA] at this; omega
      have KB : ∀ x ∈ nds b, x.chs.length + x.font.size ≤ 2147483647 := fun x hx => by have := bulk_mem hx; rw [lenB] at this; omega
      have HFA : Hid (∀ x ∈ nds a, Fit x) := fun x hx => by
        obtain ⟨y, hy, rfl⟩ := List.mem_map.1 hx
        have := KA _ hx
        exact (HIA.out y hy).fit (by omega) (by omega)
      have HFB : Hid (∀ x ∈ nds b, Fit x) := fun x hx => by
        obtain ⟨y, hy, rfl⟩ := List.mem_map.1 hx
        have := KB _ hx
        exact (HIB.out y hy).fit (by omega) (by omega)
      have HCA : Hid (∀ x ∈ a, x.1.chs.length ≤ 2147483647) := fun x hx => by have := KA _ (List.mem_map_of_mem (f := Prod.fst) hx); omega
      have HCB : Hid (∀ x ∈ b, x.1.chs.length ≤ 2147483647) := fun x hx => by have := KB _ (List.mem_map_of_mem (f := Prod.fst) hx); omega
      have hn31 : n ≤ 2147483647 := by omega
      have hm31 : m ≤ 2147483647 := by omega
      have HLA := hid (fun W (o : Only [] w W) => lend_c (cap := ca) W (HNA.out.still o) o.size HCA.out (by rw [HN.out]; exact hn31))
      have HLB := hid (fun W (o : Only [] w W) => lend_c (cap := cb) W (HNB.out.still o) o.size HCB.out (by rw [HM.out]; exact hm31))
      have HRF := hid (fun W (o : Only [] w W) => refSame_any (ac := ca) (bc := cb) W (HNA.out.still o) (HNB.out.still o) (fun x hx => HFA.out _ (List.mem_map_of_mem (f := Prod.fst) hx)) (fun x hx => HFB.out _ (List.mem_map_of_mem (f := Prod.fst) hx)) (by rw [HN.out]; omega) (by rw [HM.out]; omega))
      rw [HN.out] at HLA HRF
      rw [HM.out] at HLB HRF
      clear hba hbb KA KB lenA lenB HR1 HR2
      go_wp2_with fail
      refine (shown_any _ (HT.out.only H2.out (by simp))).mono ?_
      rintro e w3 ⟨rfl, o⟩
      have H3 := hid (H2.out.trans o)
      clear o
      go_wp2_with fail
      refine (HLA.out _ H3.out).mono ?_
      rintro e w4 ⟨⟨xa, aa, ac, va, ps, rfl, -, hps, hX⟩, o⟩
      have H4 := hid (H3.out.trans o)
      have HX := hid hX
      have HPA := hid hps
      have hpn : ps.length = n := by rw [← HN.out, show a.length = (nds a).length by simp, ← hps]; simp
      have HPN := hid hpn
      have hra := hX.room
      rw [hpn] at hra
      clear o hX hps hpn HLA
      go_wp2_with fail
      refine (HLB.out _ H4.out).mono ?_
      rintro e w5 ⟨⟨xb, ba, bc, vb, qs, rfl, -, hqs, hY⟩, o⟩
      have HO := hid (H4.out.trans o)
      have HY := hid hY
      have HX := hid (HX.out.still o)
      have HQE := hid hqs
      have hqm : qs.length = m := by rw [← HM.out, show b.length = (nds b).length by simp, ← hqs]; simp
      have HQN := hid hqm
      have hrb := hY.room
      rw [hqm] at hrb
      have hra1 : n ≤ ac := by omega
      have hra2 : (n : Int) ≤ (ac : Int) := by omega
      have hrb1 : m ≤ bc := by omega
      have hrb2 : (m : Int) ≤ (bc : Int) := by omega
      have hn0 : (0 : Int) ≤ (n : Int) := by omega
      have hm0 : (0 : Int) ≤ (m : Int) := by omega
      clear o hY hqs hqm HLB
      have HS1 := hid (fun W (o : Only [] w5 W) => same_lent HX.out HY.out o HPA.out HQE.out HFA.out HFB.out HPN.out HQN.out (by omega) (by omega))
      obtain ⟨r, hr⟩ : ∃ r, sameL (nds a) (nds b) = r := ⟨_, rfl⟩
      rw [hr] at HS1 HRF
      have HRR := hid hr
      clear hr
      have q1 := Blk.cell HX.out.bx 0
      have q2 := Blk.cell HY.out.bx 0
      have l1 := HX.out.bx.lt
      have l2 := HY.out.bx.lt
      simp only [List.getElem?_cons_zero] at q1 q2
      rw [HPN.out] at q1
      rw [HQN.out] at q2
      have g1 : ∀ d os, (behind w5 d os).cell? ⟨xa, 0, none⟩ = some _ := fun d os => (cell_behind l1 d os).trans q1
      have g2 : ∀ d os, (behind w5 d os).cell? ⟨xb, 0, none⟩ = some _ := fun d os => (cell_behind l2 d os).trans q2
      clear q1 q2 l1 l2
      go_wp2_with fail
      refine wp_region_behind (by kernel_rfl) (by kernel_rfl) ?_
      repeat (go_big_quiet_step ((first | (go_at_call 18; refine Calls.behind_of ((HS1.out _ (only_behind _ _ _)).mono fun _ _ h => ⟨h.1, h.2⟩)))))
      refine wpQuiet_nil ?_
      intro _ hw'
      obtain ⟨⟨dq, osq⟩, hw''⟩ := hw'
      subst hw''
      obtain ⟨w6, hW⟩ : ∃ W2, behind w5 dq osq = W2 := ⟨_, rfl⟩
      have o : Only [] w5 w6 := hW ▸ only_behind w5 dq osq
      rw [hW]
      clear hW g1 g2
      have HX := hid (HX.out.still o)
      have HY := hid (HY.out.still o)
      have HO := hid (HO.out.trans o)
      clear o
      have HS2 := hid (fun W (o : Only [] w6 W) => same_lent HY.out HX.out o HQE.out HPA.out HFB.out HFA.out HQN.out HPN.out (by omega) (by omega))
      rw [sameL_comm, HRR.out] at HS2
      have q1 := Blk.cell HX.out.bx 0
      have q2 := Blk.cell HY.out.bx 0
      have l1 := HX.out.bx.lt
      have l2 := HY.out.bx.lt
      simp only [List.getElem?_cons_zero] at q1 q2
      rw [HPN.out] at q1
      rw [HQN.out] at q2
      have g1 : ∀ d os, (behind w6 d os).cell? ⟨xa, 0, none⟩ = some _ := fun d os => (cell_behind l1 d os).trans q1
      have g2 : ∀ d os, (behind w6 d os).cell? ⟨xb, 0, none⟩ = some _ := fun d os => (cell_behind l2 d os).trans q2
      clear q1 q2 l1 l2
      go_wp2_with fail
      refine wp_region_behind (by kernel_rfl) (by kernel_rfl) ?_
      repeat (go_big_quiet_step ((first | (go_at_call 18; refine Calls.behind_of ((HS2.out _ (only_behind _ _ _)).mono fun _ _ h => ⟨h.1, h.2⟩)))))
      refine wpQuiet_nil ?_
      intro _ hw'
      obtain ⟨⟨dq, osq⟩, hw''⟩ := hw'
      subst hw''
      obtain ⟨w7, hW⟩ : ∃ W2, behind w6 dq osq = W2 := ⟨_, rfl⟩
      have o : Only [] w6 w7 := hW ▸ only_behind w6 dq osq
      rw [hW]
      clear hW g1 g2
      have HX := hid (HX.out.still o)
      have HY := hid (HY.out.still o)
      have HO := hid (HO.out.trans o)
      clear o
      have HS3 := hid (fun W (o : Only [] w7 W) => same_lent HX.out HX.out o HPA.out HPA.out HFA.out HFA.out HPN.out HPN.out (by omega) (by omega))
      rw [sameL_refl] at HS3
      have q1 := Blk.cell HX.out.bx 0
      have q2 := Blk.cell HY.out.bx 0
      have l1 := HX.out.bx.lt
      have l2 := HY.out.bx.lt
      simp only [List.getElem?_cons_zero] at q1 q2
      rw [HPN.out] at q1
      rw [HQN.out] at q2
      have g1 : ∀ d os, (behind w7 d os).cell? ⟨xa, 0, none⟩ = some _ := fun d os => (cell_behind l1 d os).trans q1
      have g2 : ∀ d os, (behind w7 d os).cell? ⟨xb, 0, none⟩ = some _ := fun d os => (cell_behind l2 d os).trans q2
      clear q1 q2 l1 l2
      go_wp2_with fail
      refine wp_region_behind (by kernel_rfl) (by kernel_rfl) ?_
      repeat (go_big_quiet_step ((first | (go_at_call 18; refine Calls.behind_of ((HS3.out _ (only_behind _ _ _)).mono fun _ _ h => ⟨h.1, h.2⟩)))))
      refine wpQuiet_nil ?_
      intro _ hw'
      obtain ⟨⟨dq, osq⟩, hw''⟩ := hw'
      subst hw''
      obtain ⟨w8, hW⟩ : ∃ W2, behind w7 dq osq = W2 := ⟨_, rfl⟩
      have o : Only [] w7 w8 := hW ▸ only_behind w7 dq osq
      rw [hW]
      clear hW g1 g2
      have HX := hid (HX.out.still o)
      have HY := hid (HY.out.still o)
      have HO := hid (HO.out.trans o)
      clear o
      have HST := hid (fun W (o : Only [] w8 W) => still_any (cap := ca) W (HNA.out.still (HO.out.trans o)) HCA.out (by rw [HN.out]; exact hn31) (HX.out.still o) HPA.out)
      have HSU := hid (fun W (o : Only [] w8 W) => still_any (cap := cb) W (HNB.out.still (HO.out.trans o)) HCB.out (by rw [HM.out]; exact hm31) (HY.out.still o) HQE.out)
      rw [HN.out] at HST
      rw [HM.out] at HSU
      go_wp2_with fail
      refine (HRF.out _ HO.out).mono ?_
      rintro e w9 ⟨rfl, o⟩
      have H9 := hid o
      clear o
      cases r
      all_goals
        go_wp2_with fail
        refine (HST.out _ H9.out).mono ?_
        rintro e w10 ⟨rfl, o⟩
        have H10 := hid (H9.out.trans o)
        clear o
        go_wp2_with fail
        refine (HSU.out _ H10.out).mono ?_
        rintro e w11 ⟨rfl, o⟩
        have H11 := hid (H10.out.trans o)
        clear o
        go_wp2_with fail
        go_ret
        exact ⟨rfl, HO.out.trans H11.out⟩
end Go.Proofs.YtmlhibcbgdhadaaDoor
