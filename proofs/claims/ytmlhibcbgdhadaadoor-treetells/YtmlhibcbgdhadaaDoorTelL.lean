/- Check and Print of any nodes: the walk. -/
import Derived.Test.YtmlhibcbgdhadaaDoorRefP
import Derived.Test.YtmlhibcbgdhadaaDoorLmAll
import Derived.Test.YtmlhibcbgdhadaaDoorBound
import Derived.Test.YtmlhibcbgdhadaaDoorNumAll
namespace Go.Proofs.YtmlhibcbgdhadaaDoor
open Go.RowKit

theorem told_any (ns : List Nd) : ∃ e s q, prtV ns = .tuple #[.string s, .int .i64 e] ∧ chkV (chkN ns) = .tuple #[.int .i64 q, .int .i64 e] := by
  by_cases h : (chkN ns).2 = 0
  · exact ⟨0, _, (chkN ns).1, by unfold prtV; rw [if_pos h], by unfold chkV; rw [h]⟩
  · exact ⟨(chkN ns).2, _, (chkN ns).1, by unfold prtV; rw [if_neg h], rfl⟩
set_option maxRecDepth 100000 in
set_option maxHeartbeats 16000000 in
theorem tells_law {a b : List (Nd × Value)} {ad bd : Option Addr} {ca cb : Nat} (w : World) (hA : NL w w.heap.size ad a) (hla : a.length ≤ 9223372036854775807) (hia : ∀ x ∈ a, In w x) (hB : NL w w.heap.size bd b) (hlb : b.length ≤ 9223372036854775807) (hib : ∀ x ∈ b, In w x) (hT : Tt w) :
    Calls Tryd.prog 3 #[.slice ad a.length ca, .slice bd b.length cb] w fun e w' => e = .returned (.bool true) ∧ Only [] w w' := by
  have HBA := hid (beyond_any (cap := ca) w hA hla (fun x hx => ⟨(hia x hx).font, (hia x hx).chs⟩))
  have HBB := hid (fun W (o : Only [] w W) => beyond_any (cap := cb) W (hB.still o) hlb (fun x hx => ⟨(hib x hx).font, (hib x hx).chs⟩))
  have HNA := hid hA
  have HNB := hid hB
  have HIA := hid hia
  have HIB := hid hib
  have HT := hid hT
  obtain ⟨n, hn⟩ : ∃ n, a.length = n := ⟨_, rfl⟩
  obtain ⟨m, hm⟩ : ∃ m, b.length = m := ⟨_, rfl⟩
  have HN := hid hn
  have HM := hid hm
  rw [hn] at hla HBA ⊢
  rw [hm] at hlb HBB ⊢
  clear hA hB hia hib hT hn hm
  go_enter Tryd.func3, Tryd.ntmps3
  go_wp2_with fail
  refine HBA.out.mono ?_
  rintro e w1 ⟨⟨r1, rfl, hr⟩, o1⟩
  have H1 := hid o1
  have HR1 := hid hr
  clear o1 hr HBA
  cases r1
  case true =>
    go_wp2_with fail
    go_ret
    exact ⟨rfl, H1.out⟩
  case false =>
    go_wp2_with fail
    refine (HBB.out _ H1.out).mono ?_
    rintro e w2 ⟨⟨r2, rfl, hr⟩, o⟩
    have H2 := hid (H1.out.trans o)
    have HR2 := hid hr
    clear o hr HBB
    cases r2
    case true =>
      go_wp2_with fail
      go_ret
      exact ⟨rfl, H2.out⟩
    case false =>
      have hba := HR1.out (by first | rfl | trivial)
      have hbb := HR2.out (by first | rfl | trivial)
      have lenA : (nds a).length = n := by rw [← HN.out]; simp
      have KA : ∀ x ∈ nds a, x.chs.length + x.font.size ≤ 2147483647 := fun x hx => by have := bulk_mem hx; rw [lenA] at this; omega
      have HFA : Hid (∀ x ∈ nds a, Fit x) := fun x hx => by
        obtain ⟨y, hy, rfl⟩ := List.mem_map.1 hx
        have := KA _ hx
        exact (HIA.out y hy).fit (by omega) (by omega)
      have HFA' : Hid (∀ x ∈ a, Fit x.1) := fun x hx => HFA.out _ (List.mem_map_of_mem (f := Prod.fst) hx)
      have HCA : Hid (∀ x ∈ a, x.1.chs.length ≤ 2147483647) := fun x hx => by have := KA _ (List.mem_map_of_mem (f := Prod.fst) hx); omega
      have hn31 : n ≤ 2147483647 := by omega
      have hsA : sumC (nds a) (nds a).length ≤ 2147483647 := by have := sum_bulk (nds a); rw [lenA] at this ⊢; omega
      have HSA := hid hsA
      obtain ⟨ea, sa, qa, hpa, hqa⟩ := told_any (nds a)
      have HLA := hid (fun W (o : Only [] w W) => lend_c (cap := ca) W (HNA.out.still o) o.size HCA.out (by rw [HN.out]; exact hn31))
      have HRCA := hid (fun W (o : Only [] w W) => refCheck_c (cap := ca) (by rw [HN.out]; omega) HFA'.out W (HNA.out.still o))
      have HRPA := hid (fun W (o : Only [] w W) => refPrint9_c (cap := ca) (by rw [HN.out]; omega) HFA'.out (by omega) W (HNA.out.still o))
      rw [HN.out] at HLA
      rw [HN.out, hqa] at HRCA
      rw [HN.out, hpa] at HRPA
      have HPVA := hid hpa
      have HQVA := hid hqa
      clear KA lenA hpa hqa hsA
      have lenB : (nds b).length = m := by rw [← HM.out]; simp
      have KB : ∀ x ∈ nds b, x.chs.length + x.font.size ≤ 2147483647 := fun x hx => by have := bulk_mem hx; rw [lenB] at this; omega
      have HFB : Hid (∀ x ∈ nds b, Fit x) := fun x hx => by
        obtain ⟨y, hy, rfl⟩ := List.mem_map.1 hx
        have := KB _ hx
        exact (HIB.out y hy).fit (by omega) (by omega)
      have HFB' : Hid (∀ x ∈ b, Fit x.1) := fun x hx => HFB.out _ (List.mem_map_of_mem (f := Prod.fst) hx)
      have HCB : Hid (∀ x ∈ b, x.1.chs.length ≤ 2147483647) := fun x hx => by have := KB _ (List.mem_map_of_mem (f := Prod.fst) hx); omega
      have hm31 : m ≤ 2147483647 := by omega
      have hsB : sumC (nds b) (nds b).length ≤ 2147483647 := by have := sum_bulk (nds b); rw [lenB] at this ⊢; omega
      have HSB := hid hsB
      obtain ⟨eb, sb, qb, hpb, hqb⟩ := told_any (nds b)
      have HLB := hid (fun W (o : Only [] w W) => lend_c (cap := cb) W (HNB.out.still o) o.size HCB.out (by rw [HM.out]; exact hm31))
      have HRCB := hid (fun W (o : Only [] w W) => refCheck_c (cap := cb) (by rw [HM.out]; omega) HFB'.out W (HNB.out.still o))
      have HRPB := hid (fun W (o : Only [] w W) => refPrint9_c (cap := cb) (by rw [HM.out]; omega) HFB'.out (by omega) W (HNB.out.still o))
      rw [HM.out] at HLB
      rw [HM.out, hqb] at HRCB
      rw [HM.out, hpb] at HRPB
      have HPVB := hid hpb
      have HQVB := hid hqb
      clear KB lenB hpb hqb hsB
      clear hba hbb HR1 HR2
      go_wp2_with fail
      refine (shown_any _ (HT.out.only H2.out (by simp))).mono ?_
      rintro e w3 ⟨rfl, o⟩
      have H3 := hid (H2.out.trans o)
      clear o
      go_wp2_with fail
      go_loopw [5] (fun v wr => ∃ k : Nat, v = .int .i64 k ∧ k ≤ 3 ∧ Hid (Only [] w wr)) (fun v _ => 3 - (RowKit.intOf v).toNat)
      case atStart => exact ⟨0, rfl, by omega, H3.out⟩
      case round =>
        obtain ⟨k, rfl, hk, ho⟩ := hrel
        by_cases hlt : k < 3
        · have hk3 : (k : Int) < 3 := by omega
          by_cases h1 : k = 1
          · have g1 : ((k : Int) == 1) = true := by simp; omega
            clear h1
            go_wp2_with fail
            refine (HLB.out _ ho.out).mono ?_
            rintro e w4 ⟨⟨xa, aa, ac, va, ps, rfl, -, hps, hX⟩, o⟩
            have H4 := hid (ho.out.trans o)
            have HX := hid hX
            have HPS := hid hps
            have hpn : ps.length = m := by rw [← HM.out, show b.length = (nds b).length by simp, ← hps]; simp
            have HPN := hid hpn
            have hra := hX.room
            rw [hpn] at hra
            have hra1 : m ≤ ac := by omega
            have hra2 : (m : Int) ≤ (ac : Int) := by omega
            have hn0 : (0 : Int) ≤ (m : Int) := by omega
            have hfp : ∀ x ∈ ps.map ly, Fit x.1 := fun x hx => HFB.out _ (by rw [← hps, ← ly_nds]; exact List.mem_map_of_mem (f := Prod.fst) hx)
            have HCI := hid (fun W (o : Only [] w4 W) => check_any (cap := ac) (by rw [List.length_map, hpn]; omega) hfp W (hX.still o).nl (Nat.le_refl _) (HT.out.only (H4.out.trans o) (by simp)))
            have HPI := hid (fun W (o : Only [] w4 W) => print_c (cap := ac) (by rw [List.length_map, hpn]; omega) hfp (by rw [ly_nds, hps]; have := HSB.out; omega) W (hX.still o).nl (Nat.le_refl _) (HT.out.only (H4.out.trans o) (by simp)))
            rw [List.length_map, hpn, ly_nds, hps, HQVB.out] at HCI
            rw [List.length_map, hpn, ly_nds, hps, HPVB.out] at HPI
            have HSTI := hid (fun W (o : Only [] w4 W) => still_any (cap := cb) W (HNB.out.still (H4.out.trans o)) HCB.out (by rw [HM.out]; exact hm31) (hX.still o) hps)
            rw [HM.out] at HSTI
            have HWP : Hid (∀ W, Only [] w4 W → Calls Tryd.prog 17 #[.pointer (some ⟨xa, 0, none⟩)] W fun e w' => e = .returned (.tuple #[]) ∧ Only [] w w') := fun W o =>
              wipe_c (w0 := w) ((hX.still o).wi (H4.out.trans o)) ho.out.size rfl (by rw [hpn]; exact hm31) (fun p hp => by
                have : p.1 ∈ nds b := by rw [← hps]; exact List.mem_map_of_mem (f := Prod.fst) hp
                obtain ⟨y, hy, e⟩ := List.mem_map.1 this
                rw [← e]; exact HCB.out y hy)
            have x0 := Blk.cell hX.bx 0
            simp only [List.getElem?_cons_zero] at x0
            rw [hpn] at x0
            clear o hX hps hpn hfp
            go_wp2_with fail
            refine (HCI.out _ (Only.refl _ _)).mono ?_
            rintro e w5 ⟨rfl, o⟩
            have H5 := hid o
            have x1 := Blk.cell (HX.out.still o).bx 0
            simp only [List.getElem?_cons_zero] at x1
            rw [HPN.out] at x1
            clear o x0
            go_wp2_with fail
            refine (HPI.out _ H5.out).mono ?_
            rintro e w6 ⟨rfl, ob⟩
            have H6 := hid (H5.out.trans (Only.ofBelow ob))
            clear ob x1
            go_wp2_with fail
            refine (HRCB.out _ (H4.out.trans H6.out)).mono ?_
            rintro e w7 ⟨rfl, o⟩
            have H7 := hid (H6.out.trans o)
            clear o
            go_wp2_with fail
            refine (HRPB.out _ (H4.out.trans H7.out)).mono ?_
            rintro e w8 ⟨rfl, o⟩
            have H8 := hid (H7.out.trans o)
            clear o
            go_wp2_with fail
            refine (HSTI.out _ H8.out).mono ?_
            rintro e w9 ⟨rfl, o⟩
            have H9 := hid (H8.out.trans o)
            clear o
            go_wp2_with fail
            refine (HWP.out _ H9.out).mono ?_
            rintro e w10 ⟨rfl, o⟩
            have H10 := hid o
            clear o
            go_wp2_with fail
            go_roundw
            case rel => exact ⟨k + 1, by go_num, by omega, H10.out⟩
            case measure => simp [RowKit.intOf]; omega
          · have g1 : ((k : Int) == 1) = false := by simp; omega
            clear h1
            go_wp2_with fail
            refine (HLA.out _ ho.out).mono ?_
            rintro e w4 ⟨⟨xa, aa, ac, va, ps, rfl, -, hps, hX⟩, o⟩
            have H4 := hid (ho.out.trans o)
            have HX := hid hX
            have HPS := hid hps
            have hpn : ps.length = n := by rw [← HN.out, show a.length = (nds a).length by simp, ← hps]; simp
            have HPN := hid hpn
            have hra := hX.room
            rw [hpn] at hra
            have hra1 : n ≤ ac := by omega
            have hra2 : (n : Int) ≤ (ac : Int) := by omega
            have hn0 : (0 : Int) ≤ (n : Int) := by omega
            have hfp : ∀ x ∈ ps.map ly, Fit x.1 := fun x hx => HFA.out _ (by rw [← hps, ← ly_nds]; exact List.mem_map_of_mem (f := Prod.fst) hx)
            have HCI := hid (fun W (o : Only [] w4 W) => check_any (cap := ac) (by rw [List.length_map, hpn]; omega) hfp W (hX.still o).nl (Nat.le_refl _) (HT.out.only (H4.out.trans o) (by simp)))
            have HPI := hid (fun W (o : Only [] w4 W) => print_c (cap := ac) (by rw [List.length_map, hpn]; omega) hfp (by rw [ly_nds, hps]; have := HSA.out; omega) W (hX.still o).nl (Nat.le_refl _) (HT.out.only (H4.out.trans o) (by simp)))
            rw [List.length_map, hpn, ly_nds, hps, HQVA.out] at HCI
            rw [List.length_map, hpn, ly_nds, hps, HPVA.out] at HPI
            have HSTI := hid (fun W (o : Only [] w4 W) => still_any (cap := ca) W (HNA.out.still (H4.out.trans o)) HCA.out (by rw [HN.out]; exact hn31) (hX.still o) hps)
            rw [HN.out] at HSTI
            have HWP : Hid (∀ W, Only [] w4 W → Calls Tryd.prog 17 #[.pointer (some ⟨xa, 0, none⟩)] W fun e w' => e = .returned (.tuple #[]) ∧ Only [] w w') := fun W o =>
              wipe_c (w0 := w) ((hX.still o).wi (H4.out.trans o)) ho.out.size rfl (by rw [hpn]; exact hn31) (fun p hp => by
                have : p.1 ∈ nds a := by rw [← hps]; exact List.mem_map_of_mem (f := Prod.fst) hp
                obtain ⟨y, hy, e⟩ := List.mem_map.1 this
                rw [← e]; exact HCA.out y hy)
            have x0 := Blk.cell hX.bx 0
            simp only [List.getElem?_cons_zero] at x0
            rw [hpn] at x0
            clear o hX hps hpn hfp
            go_wp2_with fail
            refine (HCI.out _ (Only.refl _ _)).mono ?_
            rintro e w5 ⟨rfl, o⟩
            have H5 := hid o
            have x1 := Blk.cell (HX.out.still o).bx 0
            simp only [List.getElem?_cons_zero] at x1
            rw [HPN.out] at x1
            clear o x0
            go_wp2_with fail
            refine (HPI.out _ H5.out).mono ?_
            rintro e w6 ⟨rfl, ob⟩
            have H6 := hid (H5.out.trans (Only.ofBelow ob))
            clear ob x1
            go_wp2_with fail
            refine (HRCA.out _ (H4.out.trans H6.out)).mono ?_
            rintro e w7 ⟨rfl, o⟩
            have H7 := hid (H6.out.trans o)
            clear o
            go_wp2_with fail
            refine (HRPA.out _ (H4.out.trans H7.out)).mono ?_
            rintro e w8 ⟨rfl, o⟩
            have H8 := hid (H7.out.trans o)
            clear o
            go_wp2_with fail
            refine (HSTI.out _ H8.out).mono ?_
            rintro e w9 ⟨rfl, o⟩
            have H9 := hid (H8.out.trans o)
            clear o
            go_wp2_with fail
            refine (HWP.out _ H9.out).mono ?_
            rintro e w10 ⟨rfl, o⟩
            have H10 := hid o
            clear o
            go_wp2_with fail
            go_roundw
            case rel => exact ⟨k + 1, by go_num, by omega, H10.out⟩
            case measure => simp [RowKit.intOf]; omega
        · have hk3 : ¬ (k : Int) < 3 := by omega
          clear hlt
          go_wp2_with fail
          go_ret
          exact ⟨rfl, ho.out⟩
end Go.Proofs.YtmlhibcbgdhadaaDoor
