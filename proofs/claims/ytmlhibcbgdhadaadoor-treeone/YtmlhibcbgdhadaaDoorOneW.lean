/- Two documents have one text just if they are the same, wherever they stand: the walk. -/
import Derived.Test.YtmlhibcbgdhadaaDoorMvS
import Derived.Test.YtmlhibcbgdhadaaDoorBound
import Derived.Test.YtmlhibcbgdhadaaDoorNum
namespace Go.Proofs.YtmlhibcbgdhadaaDoor
open Go.RowKit

/-- what Check and Print tell of nodes -/
def TP (ns : List Nd) (e : Int) (s : ByteArray) : Prop := (e = 0 ∧ Doc ns ∧ s = strN (prt ns)) ∨ (e ≠ 0 ∧ s = ⟨#[]⟩)
theorem tp_any (ns : List Nd) : ∃ e s q, prtV ns = .tuple #[.string s, .int .i64 e] ∧ chkV (chkN ns) = .tuple #[.int .i64 q, .int .i64 e] ∧ TP ns e s := by
  by_cases h : (chkN ns).2 = 0
  · exact ⟨0, _, (chkN ns).1, by unfold prtV; rw [if_pos h], by unfold chkV; rw [h], .inl ⟨rfl, chk_doc.1 h, rfl⟩⟩
  · exact ⟨(chkN ns).2, _, (chkN ns).1, by unfold prtV; rw [if_neg h], rfl, .inr ⟨h, rfl⟩⟩
theorem strN_pos {bs : List Nat} (h : bs ≠ []) : 0 < (strN bs).size := by
  have : (strN bs).size = bs.length := by unfold strN ByteArray.size; simp
  rw [this]; exact List.length_pos_iff.2 h
theorem strN_inj {a b : List Nat} (ha : ∀ x ∈ a, x < 256) (hb : ∀ x ∈ b, x < 256) (h : strN a = strN b) : a = b := by
  rw [← bl_strN a ha, ← bl_strN b hb, h]
theorem print_o {xs : List (Nd × Value)} {ad : Option Addr} {cap C : Nat} (hlen : xs.length ≤ 4294967296) (hf : ∀ x ∈ xs, Fit x.1) (hsum : sumC (nds xs) (nds xs).length ≤ 4294967296) (w : World) (hNL : NL w C ad xs) (hC : C ≤ w.heap.size) (hT : Tt w) :
    Calls Tryd.prog 13 #[.slice ad xs.length cap] w fun e w' => e = .returned (prtV (nds xs)) ∧ Only [] w w' :=
  (print_c (cap := cap) hlen hf hsum w hNL hC hT).mono fun _ _ ⟨h1, h2⟩ => ⟨h1, Only.ofBelow h2⟩
set_option maxRecDepth 100000 in
set_option maxHeartbeats 16000000 in
theorem one_law {a b : List (Nd × Value)} {ad bd : Option Addr} {ca cb : Nat} (w : World) (hA : NL w w.heap.size ad a) (hla : a.length ≤ 9223372036854775807) (hia : ∀ x ∈ a, In w x) (hB : NL w w.heap.size bd b) (hlb : b.length ≤ 9223372036854775807) (hib : ∀ x ∈ b, In w x) (hT : Tt w) :
    Calls Tryd.prog 6 #[.slice ad a.length ca, .slice bd b.length cb] w fun e w' => e = .returned (.bool true) ∧ Only [] w w' := by
  have HBA := hid (beyond_any (cap := ca) w hA hla (fun x hx => ⟨(hia x hx).font, (hia x hx).chs⟩))
  have HBB := hid (fun W (o : Only [] w W) => beyond_any (cap := cb) W (hB.still o) hlb (fun x hx => ⟨(hib x hx).font, (hib x hx).chs⟩))
  have HNA := hid hA
  have HNB := hid hB
  have HIA := hid hia
  have HIB := hid hib
  have HT := hid hT
  obtain ⟨n, hn⟩ : ∃ n, a.length = n := ⟨_, rfl⟩
  obtain ⟨m, hm⟩ : ∃ m, b.length = m := ⟨_, rfl⟩
  have HN := hid hn
  have HM := hid hm
  rw [hn] at hla HBA ⊢
  rw [hm] at hlb HBB ⊢
  clear hA hB hia hib hT hn hm
  go_enter Tryd.func6, Tryd.ntmps6
  go_wp2_with fail
  refine HBA.out.mono ?_
  rintro e w1 ⟨⟨r1, rfl, hr⟩, o1⟩
  have H1 := hid o1
  have HR1 := hid hr
  clear o1 hr HBA
  cases r1
  case true =>
    go_wp2_with fail
    go_ret
    exact ⟨rfl, H1.out⟩
  case false =>
    go_wp2_with fail
    refine (HBB.out _ H1.out).mono ?_
    rintro e w2 ⟨⟨r2, rfl, hr⟩, o⟩
    have H2 := hid (H1.out.trans o)
    have HR2 := hid hr
    clear o hr HBB
    cases r2
    case true =>
      go_wp2_with fail
      go_ret
      exact ⟨rfl, H2.out⟩
    case false =>
      have hba := HR1.out (by first | rfl | trivial)
      have hbb := HR2.out (by first | rfl | trivial)
      have lenA : (nds a).length = n := by rw [← HN.out]; simp
      have lenB : (nds b).length = m := by rw [← HM.out]; simp
      have KA : ∀ x ∈ nds a, x.chs.length + x.font.size ≤ 2147483647 := fun x hx => by have := bulk_mem hx; rw [lenA] at this; omega
      have KB : ∀ x ∈ nds b, x.chs.length + x.font.size ≤ 2147483647 := fun x hx => by have := bulk_mem hx; rw [lenB] at this; omega
      have HFA : Hid (∀ x ∈ nds a, Fit x) := fun x hx => by
        obtain ⟨y, hy, rfl⟩ := List.mem_map.1 hx
        have := KA _ hx
        exact (HIA.out y hy).fit (by omega) (by omega)
      have HFB : Hid (∀ x ∈ nds b, Fit x) := fun x hx => by
        obtain ⟨y, hy, rfl⟩ := List.mem_map.1 hx
        have := KB _ hx
        exact (HIB.out y hy).fit (by omega) (by omega)
      have HFA' : Hid (∀ x ∈ a, Fit x.1) := fun x hx => HFA.out _ (List.mem_map_of_mem (f := Prod.fst) hx)
      have HFB' : Hid (∀ x ∈ b, Fit x.1) := fun x hx => HFB.out _ (List.mem_map_of_mem (f := Prod.fst) hx)
      have HCA : Hid (∀ x ∈ a, x.1.chs.length ≤ 2147483647) := fun x hx => by have := KA _ (List.mem_map_of_mem (f := Prod.fst) hx); omega
      have hn31 : n ≤ 2147483647 := by omega
      have hm31 : m ≤ 2147483647 := by omega
      have hsa : sumC (nds a) (nds a).length ≤ 2147483647 := by have := sum_bulk (nds a); rw [lenA] at this ⊢; omega
      have hsb : sumC (nds b) (nds b).length ≤ 2147483647 := by have := sum_bulk (nds b); rw [lenB] at this ⊢; omega
      have HSA := hid hsa
      obtain ⟨ea, sa, qa, hpa, hqa, hta⟩ := tp_any (nds a)
      obtain ⟨eb, sb, qb, hpb, hqb, htb⟩ := tp_any (nds b)
      have HLA := hid (fun W (o : Only [] w W) => lend_c (cap := ca) W (HNA.out.still o) o.size HCA.out (by rw [HN.out]; exact hn31))
      have HPA := hid (fun W (o : Only [] w W) => print_o (cap := ca) (by rw [HN.out]; omega) HFA'.out (by omega) W (HNA.out.still o) o.size (HT.out.only o (by simp)))
      have HPB := hid (fun W (o : Only [] w W) => print_o (cap := cb) (by rw [HM.out]; omega) HFB'.out (by omega) W (HNB.out.still o) o.size (HT.out.only o (by simp)))
      have HQA := hid (fun W (o : Only [] w W) => check_any (cap := ca) (by rw [HN.out]; omega) HFA'.out W (HNA.out.still o) o.size (HT.out.only o (by simp)))
      have HQB := hid (fun W (o : Only [] w W) => check_any (cap := cb) (by rw [HM.out]; omega) HFB'.out W (HNB.out.still o) o.size (HT.out.only o (by simp)))
      have HSS := hid (fun W (o : Only [] w W) => treeSame_any (ac := ca) (bc := cb) W (HNA.out.still o) (HNB.out.still o) HFA'.out HFB'.out (by rw [HN.out]; omega) (by rw [HM.out]; omega))
      rw [HN.out] at HLA
      rw [HN.out, hpa] at HPA
      rw [HM.out, hpb] at HPB
      rw [HN.out, hqa] at HQA
      rw [HM.out, hqb] at HQB
      rw [HN.out, HM.out] at HSS
      have HTA := hid hta
      have HTB := hid htb
      have HPV := hid hpa
      clear hba hbb KA KB lenA lenB HR1 HR2 hpa hpb hqa hqb hta htb hsa hsb
      go_wp2_with fail
      refine (shown_any _ (HT.out.only H2.out (by simp))).mono ?_
      rintro e w3 ⟨rfl, o⟩
      have H3 := hid (H2.out.trans o)
      clear o
      go_wp2_with fail
      refine (HPA.out _ H3.out).mono ?_
      rintro e w4 ⟨rfl, o⟩
      have H4 := hid (H3.out.trans o)
      clear o HPA
      go_wp2_with fail
      refine (HPB.out _ H4.out).mono ?_
      rintro e w5 ⟨rfl, o⟩
      have H5 := hid (H4.out.trans o)
      clear o HPB
      go_wp2_with fail
      refine (HQA.out _ H5.out).mono ?_
      rintro e w6 ⟨rfl, o⟩
      have H6 := hid (H5.out.trans o)
      clear o HQA
      go_wp2_with fail
      refine (HQB.out _ H6.out).mono ?_
      rintro e w7 ⟨rfl, o⟩
      have H7 := hid (H6.out.trans o)
      clear o HQB
      have ne1 : (ea != ea) = false := by simp
      have ne2 : (eb != eb) = false := by simp
      rcases HTA.out with ⟨rfl, hda, hsa⟩ | ⟨hea, rfl⟩
      case inr =>
        have a1 : (ea == 0) = false := by simpa using hea
        have a2 : (ea != 0) = true := by simpa using hea
        clear hea HTA HPV
        rcases HTB.out with ⟨rfl, hdb, hsb⟩ | ⟨heb, rfl⟩
        case inr =>
          have b1 : (eb == 0) = false := by simpa using heb
          have b2 : (eb != 0) = true := by simpa using heb
          clear heb HTB
          go_wp2_with fail
          go_ret
          exact ⟨rfl, H7.out⟩
        case inl =>
          have hne := strN_pos (prt_ne hdb)
          rw [← hsb] at hne
          obtain ⟨t1, t2, t3, t4⟩ := U.nonempty_toList hne
          clear hdb hsb hne HTB
          go_wp2_with fail
          go_ret
          exact ⟨rfl, H7.out⟩
      case inl =>
        have HSAE := hid hsa
        have HDA := hid hda
        have hne := strN_pos (prt_ne hda)
        rw [← hsa] at hne
        obtain ⟨t1, t2, t3, t4⟩ := U.nonempty_toList hne
        clear hda hsa hne HTA
        rcases HTB.out with ⟨rfl, hdb, hsb⟩ | ⟨heb, rfl⟩
        case inr =>
          have b1 : (eb == 0) = false := by simpa using heb
          have b2 : (eb != 0) = true := by simpa using heb
          clear heb HTB
          go_wp2_with fail
          go_ret
          exact ⟨rfl, H7.out⟩
        case inl =>
          have HSBE := hid hsb
          have HDB := hid hdb
          clear hdb hsb HTB t1 t2 t3 t4 ne1 ne2
          go_wp2_with fail
          refine (HLA.out _ H7.out).mono ?_
          rintro e w8 ⟨⟨xa, aa, ac, va, ps, rfl, -, hps, hX⟩, o⟩
          have H8 := hid (H7.out.trans o)
          have HMV := hid hX.mv
          have HPS := hid hps
          have hpn : ps.length = n := by rw [← HN.out, show a.length = (nds a).length by simp, ← hps]; simp
          have HPN := hid hpn
          have hra := hX.room
          rw [hpn] at hra
          have HW7 : Hid (w.heap.size ≤ w7.heap.size) := H7.out.size
          have HFP : Hid (∀ p ∈ ps, Fit p.1) := fun p hp => HFA.out _ (by rw [← hps]; exact List.mem_map_of_mem (f := Prod.fst) hp)
          clear o hX hps hpn HLA
          go_wp2_with fail
          go_loopw [14] (fun i wr => ∃ (k : Nat) (qs : List Ln), i = .int .i64 k ∧ k ≤ n ∧ Hid (MV wr w7.heap.size xa aa ac va qs ∧ qs.map key = ps.map key ∧ (∀ q ∈ qs, Fit q.1)) ∧ Hid (Only [] w wr)) (fun i _ => n - (RowKit.intOf i).toNat)
          case atStart => exact ⟨0, ps, rfl, by omega, ⟨HMV.out, rfl, HFP.out⟩, H8.out⟩
          case round =>
            obtain ⟨k, qs, rfl, hk, hst, ho⟩ := hrel
            have hql : qs.length = n := by rw [← HPN.out]; simpa using congrArg List.length hst.out.2.1
            have HQL := hid hql
            clear hql
            by_cases hlt : k < n
            · obtain ⟨p, hp⟩ := some_at (xs := qs) (i := k) (by rw [HQL.out]; exact hlt)
              have hfp := hst.out.2.2 p (List.mem_of_getElem? hp)
              obtain ⟨pn, pb, pc⟩ := p
              obtain ⟨⟨f1, u1, c1⟩, m1, e1⟩ := hst.out.1.put (i := k) (c := 2) (p := (pn, pb, pc)) (q := ({ pn with at_ := -(k : Int) }, pb, pc)) (.int .i64 (-(k : Int))) hp (by decide) rfl rfl rfl
              have hp1 : (qs.set k ({ pn with at_ := -(k : Int) }, pb, pc))[k]? = some (({ pn with at_ := -(k : Int) }, pb, pc) : Ln) := by rw [List.getElem?_set_self (by rw [HQL.out]; exact hlt)]
              obtain ⟨⟨f2, u2, c2⟩, m2, e2⟩ := m1.put (i := k) (c := 3) (q := ({ pn with at_ := -(k : Int), fin := 7 * (k : Int) }, pb, pc)) (.int .i64 (7 * (k : Int))) hp1 (by decide) rfl rfl rfl
              have x0 := Blk.cell hst.out.1.bx 0
              have x1 := Blk.cell m1.bx 0
              have x2 := Blk.cell m2.bx 0
              simp only [List.getElem?_cons_zero, List.length_set, HQL.out] at x0 x1 x2
              have hkl : (k : Int) < (n : Int) := by omega
              have hkl1 : k < n + 1 := by omega
              have hkl2 : (k : Int) < (n : Int) + 1 := by omega
              have hk0 : (0 : Int) ≤ (k : Int) := by omega
              have hk31 : (k : Int) ≤ 2147483647 := by omega
              have M2 := hid m2
              have E2 := hid (e2.trans (e1.trans hst.out.2.1))
              have HFQ : Hid (∀ q ∈ (qs.set k ({ pn with at_ := -(k : Int) }, pb, pc)).set k ({ pn with at_ := -(k : Int), fin := 7 * (k : Int) }, pb, pc), Fit q.1) := fun q hq => by
                rcases List.mem_or_eq_of_mem_set hq with hq | rfl
                · rcases List.mem_or_eq_of_mem_set hq with hq | rfl
                  · exact hst.out.2.2 q hq
                  · exact ⟨hfp.kind, hfp.par, ⟨by dsimp only; omega, by dsimp only; omega⟩, hfp.fin, hfp.has, hfp.size, hfp.width, hfp.height, hfp.lead, hfp.skip, hfp.tol, hfp.font, hfp.chs⟩
                · exact ⟨hfp.kind, hfp.par, ⟨by dsimp only; omega, by dsimp only; omega⟩, ⟨by dsimp only; omega, by dsimp only; omega⟩, hfp.has, hfp.size, hfp.width, hfp.height, hfp.lead, hfp.skip, hfp.tol, hfp.font, hfp.chs⟩
              obtain ⟨A, hA1, -, hA3⟩ := hst.out.1.va
              have HO2 : Hid (Only [] w ((wr.setCell ⟨aa, k * 13 + 2, none⟩ (.int .i64 (-(k : Int)))).setCell ⟨aa, k * 13 + 3, none⟩ (.int .i64 (7 * (k : Int))))) := (ho.out.set (.inr (Nat.le_trans HW7.out hA3)) _).set (.inr (Nat.le_trans HW7.out hA3)) _
              have hnx : ¬ xa = aa := fun e => by subst e; exact absurd (hst.out.1.bx.same hA1).2 (by decide)
              have HLT := hid hlt
              clear hp hfp m1 e1 m2 e2 hp1 hA1 hA3 hst ho hlt x2
              obtain ⟨x, hx⟩ := some_at (xs := a) (i := k) (by rw [HN.out]; exact HLT.out)
              obtain ⟨xn, xv⟩ := x
              have HXK := hid hx
              have hxl : xn.chs.length = pn.chs.length := by
                have q1 := congrArg (fun l : List Ln => (l[k]?).map fun z => z.1.chs.length) E2.out
                have q2 := congrArg (fun l : List Nd => (l[k]?).map fun z => z.chs.length) HPS.out
                have hps1 : (ps[k]?).map (fun z : Ln => z.1.chs.length) = some xn.chs.length := by
                  have : (nds a)[k]? = some xn := nds_get hx
                  simp only [List.getElem?_map, this, Option.map_map, Option.map_some] at q2
                  exact q2
                have hset : ((qs.set k (({ pn with at_ := -(k : Int) }, pb, pc) : Ln)).set k ({ pn with at_ := -(k : Int), fin := 7 * (k : Int) }, pb, pc))[k]? = some (({ pn with at_ := -(k : Int), fin := 7 * (k : Int) }, pb, pc) : Ln) := by
                  rw [List.getElem?_set_self (by rw [List.length_set, HQL.out]; exact HLT.out)]
                simp only [List.getElem?_map, hset, Option.map_some, Option.map_map] at q1
                have q3 : (ps[k]?).map (fun z : Ln => (key z).1.chs.length) = some xn.chs.length := by
                  rw [← hps1]; congr 1; funext z; simp [key]
                have q4 : (ps[k]?).map ((fun z : Ln => z.1.chs.length) ∘ key) = some xn.chs.length := q3
                rw [q4] at q1
                injection q1 with q1
                rw [← q1]; simp [key]
              obtain ⟨xm, hxm⟩ : ∃ xm, pn.chs.length = xm := ⟨_, rfl⟩
              rw [hxm] at hxl
              have HXL := hid hxl
              have HXM := hid hxm
              have hxm31 : xm ≤ 2147483647 := by
                have := HCA.out _ (List.mem_of_getElem? hx)
                rw [← hxl]; exact this
              obtain ⟨vb0, vc0, hva0, -, -⟩ := M2.out.kept (k := k) (p := (({ pn with at_ := -(k : Int), fin := 7 * (k : Int) }, pb, pc) : Ln)) (by rw [List.getElem?_set_self (by rw [List.length_set, HQL.out]; exact HLT.out)])
              simp only [List.length_set, HQL.out] at hva0
              subst hva0
              have HNX := hid (HNA.out.cv _ (List.mem_of_getElem? hx))
              clear hx hxl hxm
              go_wp2_with fail
              obtain ⟨W2, hW2⟩ : ∃ W2, (wr.setCell ⟨aa, k * 13 + 2, none⟩ (.int .i64 (-(k : Int)))).setCell ⟨aa, k * 13 + 3, none⟩ (.int .i64 (7 * (k : Int))) = W2 := ⟨_, rfl⟩
              rw [hW2] at M2 HO2 ⊢
              clear hW2 x0 x1 f1 f2 c1 c2
              obtain ⟨rs, hrs⟩ : ∃ rs, (qs.set k (({ pn with at_ := -(k : Int) }, pb, pc) : Ln)).set k ({ pn with at_ := -(k : Int), fin := 7 * (k : Int) }, pb, pc) = rs := ⟨_, rfl⟩
              rw [hrs] at M2 E2 HFQ
              have HRK : Hid (∃ yn : Nd, rs[k]? = some (yn, pb, pc) ∧ yn.chs.length = xm) := ⟨{ pn with at_ := -(k : Int), fin := 7 * (k : Int) }, by rw [← hrs]; exact List.getElem?_set_self (by rw [List.length_set, HQL.out]; exact HLT.out), HXM.out⟩
              clear hrs
              go_loopw [15] (fun j wr => ∃ (i : Nat) (rs : List Ln), j = .int .i64 i ∧ i ≤ xm ∧ Hid (MV wr w7.heap.size xa aa ac (.slice (some ⟨vb0, 0, none⟩) n vc0) rs ∧ rs.map key = ps.map key ∧ (∀ q ∈ rs, Fit q.1) ∧ ∃ yn, rs[k]? = some (yn, pb, pc) ∧ yn.chs.length = xm) ∧ Hid (Only [] w wr)) (fun j _ => xm - (RowKit.intOf j).toNat)
              case atStart => exact ⟨0, rs, rfl, by omega, ⟨M2.out, E2.out, HFQ.out, HRK.out⟩, HO2.out⟩
              case round =>
                obtain ⟨i, ss, rfl, hi, hst, ho⟩ := hrel
                obtain ⟨yn, hy, hyl⟩ := hst.out.2.2.2
                obtain ⟨bb, bo, rfl, -, bbw, cb⟩ := (HNA.out.still ho.out).at_ HXK.out
                obtain ⟨ca2, cc2, hxv, -⟩ := HNX.out
                have cb12 := cb 12 _ rfl
                dsimp only at cb12 hxv
                rw [hxv, HXL.out] at cb12
                have hil0 : (0 : Int) ≤ (i : Int) := by omega
                have hss : ss.length = n := by rw [← HPN.out]; simpa using congrArg List.length hst.out.2.1
                by_cases hlt : i < xm
                · obtain ⟨⟨f1, u1, c1⟩, m1, e1⟩ := hst.out.1.putC (k := i) (c := 1) (i : Int) hy (by rw [hyl]; exact hlt) (.inl rfl)
                  have hy1 : (ss.map (chM pb i 1 (i : Int)))[k]? = some (chM pb i 1 (i : Int) (yn, pb, pc)) := by rw [List.getElem?_map, hy]; rfl
                  have hyb : (chM pb i 1 (i : Int) (yn, pb, pc)).2 = (pb, pc) := (chM_len _ _ _ _ _).2
                  have hyl1 : (chM pb i 1 (i : Int) (yn, pb, pc)).1.chs.length = xm := by rw [(chM_len _ _ _ _ _).1]; exact hyl
                  obtain ⟨zn, zb⟩ : ∃ zn, chM pb i 1 (i : Int) (yn, pb, pc) = (zn, pb, pc) := ⟨(chM pb i 1 (i : Int) (yn, pb, pc)).1, Prod.ext rfl hyb⟩
                  rw [zb] at hy1 hyl1
                  obtain ⟨⟨f2, u2, c2⟩, m2, e2⟩ := m1.putC (k := i) (c := 2) (-(i : Int)) hy1 (by rw [hyl1]; exact hlt) (.inr rfl)
                  have hy2 : ((ss.map (chM pb i 1 (i : Int))).map (chM pb i 2 (-(i : Int))))[k]? = some (chM pb i 2 (-(i : Int)) (zn, pb, pc)) := by rw [List.getElem?_map, hy1]; rfl
                  have hyb2 : (chM pb i 2 (-(i : Int)) (zn, pb, pc)).2 = (pb, pc) := (chM_len _ _ _ _ _).2
                  have hyl2 : (chM pb i 2 (-(i : Int)) (zn, pb, pc)).1.chs.length = xm := by rw [(chM_len _ _ _ _ _).1]; exact hyl1
                  obtain ⟨yn2, zb2⟩ : ∃ yn2, chM pb i 2 (-(i : Int)) (zn, pb, pc) = (yn2, pb, pc) := ⟨(chM pb i 2 (-(i : Int)) (zn, pb, pc)).1, Prod.ext rfl hyb2⟩
                  rw [zb2] at hy2 hyl2
                  have x0 := Blk.cell hst.out.1.bx 1
                  have x1 := Blk.cell m1.bx 1
                  simp only [List.getElem?_cons_zero, List.getElem?_cons_succ] at x0 x1
                  obtain ⟨vb1, vc1, hv1, cv1, -⟩ := hst.out.1.kept hy
                  obtain ⟨vb2, vc2, hv2, cv2, -⟩ := m1.kept hy1
                  injection hv1 with hv1 _ _
                  injection hv1 with hv1
                  injection hv1 with hv1 _ _
                  injection hv2 with hv2 _ _
                  injection hv2 with hv2
                  injection hv2 with hv2 _ _
                  subst hv1
                  subst hv2
                  unfold lc at cv1 cv2
                  dsimp only at cv1 cv2 f1 f2 c1 c2
                  rw [hyl] at cv1
                  rw [hyl1] at cv2
                  have HFS : Hid (∀ q ∈ (ss.map (chM pb i 1 (i : Int))).map (chM pb i 2 (-(i : Int))), Fit q.1) := fun q hq => by
                    have key2 : ∀ c v (z : Ln), Fit z.1 → Fit (chM pb i c v z).1 := fun c v z hz => by
                      have hl := (chM_len pb i c v z).1
                      have : (chM pb i c v z).1 = { z.1 with chs := (chM pb i c v z).1.chs } := by unfold chM; split <;> rfl
                      rw [this]
                      exact ⟨hz.kind, hz.par, hz.at_, hz.fin, hz.has, hz.size, hz.width, hz.height, hz.lead, hz.skip, hz.tol, hz.font, by dsimp only; rw [hl]; exact hz.chs⟩
                    obtain ⟨z, hz, rfl⟩ := List.mem_map.1 hq
                    obtain ⟨y, hy, rfl⟩ := List.mem_map.1 hz
                    exact key2 _ _ _ (key2 _ _ _ (hst.out.2.2.1 y hy))
                  obtain ⟨C, -, -, hC3⟩ := hst.out.1.ch _ (List.mem_of_getElem? hy)
                  dsimp only at hC3 m1 m2
                  have HM2 := hid m2
                  have HE2 := hid (e2.trans (e1.trans hst.out.2.1))
                  have HY2 : Hid (∃ yn, ((ss.map (chM pb i 1 (i : Int))).map (chM pb i 2 (-(i : Int))))[k]? = some (yn, pb, pc) ∧ yn.chs.length = xm) := ⟨yn2, hy2, hyl2⟩
                  have HO4 : Hid (Only [] w ((wr.setCell ⟨pb, i * 3 + 1, none⟩ (.int .i64 (i : Int))).setCell ⟨pb, i * 3 + 2, none⟩ (.int .i64 (-(i : Int))))) := (ho.out.set (.inr (Nat.le_trans HW7.out hC3)) _).set (.inr (Nat.le_trans HW7.out hC3)) _
                  have hil : (i : Int) < (xm : Int) := by omega
                  have hil1 : i < xm + 1 := by omega
                  have hil2 : (i : Int) < (xm : Int) + 1 := by omega
                  have hi31 : (i : Int) ≤ 2147483647 := by omega
                  have HL2 := hid hlt
                  clear hst ho hy hyl e1 hy1 hyb hyl1 zb e2 hy2 hyb2 hyl2 zb2 hC3 m1 m2 cb hxv hss hlt
                  go_wp2_with fail
                  go_roundw
                  case rel => exact ⟨i + 1, _, by go_num, HL2.out, ⟨HM2.out, HE2.out, HFS.out, HY2.out⟩, HO4.out⟩
                  case measure => have := HL2.out; simp [RowKit.intOf]; omega
                · have hil : ¬ (i : Int) < (xm : Int) := by omega
                  have HST := hid (And.intro hst.out.1 (And.intro hst.out.2.1 hst.out.2.2.1))
                  have HO5 := hid ho.out
                  clear hst ho hy hyl cb hxv hss hlt
                  go_wp2_with fail
                  go_roundw
                  case rel => exact ⟨k + 1, ss, by go_num, HLT.out, HST.out, HO5.out⟩
                  case measure => have := HLT.out; simp [RowKit.intOf]; omega
            · obtain rfl : k = n := by omega
              have HMo := hid (keys_mo hst.out.2.1)
              rw [HPS.out] at HMo
              have hkn : ¬ (k : Int) < (k : Int) := by omega
              have hnl := hst.out.1.nl
              have hra1 : k ≤ ac := by omega
              have hra2 : (k : Int) ≤ (ac : Int) := by omega
              have hk0 : (0 : Int) ≤ (k : Int) := by omega
              have x0 := Blk.cell hst.out.1.bx 0
              simp only [List.getElem?_cons_zero, HQL.out] at x0
              have hmn : (qs.map ly).length = k := by rw [List.length_map, HQL.out]
              have hfm : ∀ x ∈ qs.map ly, Fit x.1 := fun x hx => by
                obtain ⟨q, hq, rfl⟩ := List.mem_map.1 hx
                exact hst.out.2.2 q hq
              have hMD := HMo.out
              rw [← ly_nds qs] at hMD
              have HPM := hid (fun W (o : Only [] wr W) => print_o (cap := ac) (by rw [hmn]; omega) hfm (by rw [← hMD.sum]; have := HSA.out; omega) W (hnl.still o) o.size (HT.out.only (ho.out.trans o) (by simp)))
              have HSM := hid (fun W (o : Only [] wr W) => treeSame_any (ac := ac) (bc := ca) (B := W.heap.size) W ((hnl.still o).mono o.size) ((HNA.out.still (ho.out.trans o)).mono (ho.out.trans o).size) hfm HFA'.out (by rw [hmn]; omega) (by rw [HN.out]; omega))
              have hpv : prtV (nds (qs.map ly)) = .tuple #[.string sa, .int .i64 0] := by
                have hd2 := hMD.doc HDA.out
                unfold prtV
                rw [if_pos (chk_doc.2 hd2), ← hMD.prt HDA.out, ← HSAE.out]
              have hsl : sameL (nds (qs.map ly)) (nds a) = true := hMD.symm.sameL
              rw [hmn, hpv] at HPM
              rw [hmn, HN.out, hsl] at HSM
              have hss : sameL (nds a) (nds b) = decide (sa = sb) := by
                rw [prt_iff HDA.out HDB.out (fun x hx => (HFA.out x hx).has) (fun x hx => (HFB.out x hx).has)]
                by_cases h : prt (nds a) = prt (nds b)
                · rw [decide_eq_true h, decide_eq_true (by rw [HSAE.out, HSBE.out, h])]
                · rw [decide_eq_false h, decide_eq_false (fun e => h (strN_inj (prt_lt _) (prt_lt _) (by rw [← HSAE.out, ← HSBE.out, e])))]
              rw [hss] at HSS
              have HO5 := hid ho.out
              clear hst ho hlt hnl hmn hfm hMD hpv hsl hss HMo HQL
              go_wp2_with fail
              refine (HPM.out _ (Only.refl _ _)).mono ?_
              rintro e w9 ⟨rfl, o⟩
              have H9 := hid o
              clear o HPM
              by_cases hst : sa = sb
              · subst hst
                rw [decide_eq_true rfl] at HSS
                go_wp2_with fail
                refine (HSS.out _ (HO5.out.trans H9.out)).mono ?_
                rintro e w10 ⟨rfl, o⟩
                have H10 := hid (H9.out.trans o)
                clear o HSS
                go_wp2_with fail
                refine (HSM.out _ H10.out).mono ?_
                rintro e w11 ⟨rfl, o⟩
                have H11 := hid (HO5.out.trans (H10.out.trans o))
                clear o HSM
                go_wp2_with fail
                go_ret
                exact ⟨rfl, H11.out⟩
              · rw [decide_eq_false hst] at HSS
                have t1 : (sa.toList == sb.toList) = false := font_ne hst
                have t2 : (sb.toList == sa.toList) = false := font_ne (fun e => hst e.symm)
                clear hst
                go_wp2_with fail
                refine (HSS.out _ (HO5.out.trans H9.out)).mono ?_
                rintro e w10 ⟨rfl, o⟩
                have H10 := hid (H9.out.trans o)
                clear o HSS
                go_wp2_with fail
                refine (HSM.out _ H10.out).mono ?_
                rintro e w11 ⟨rfl, o⟩
                have H11 := hid (HO5.out.trans (H10.out.trans o))
                clear o HSM
                go_wp2_with fail
                go_ret
                exact ⟨rfl, H11.out⟩
end Go.Proofs.YtmlhibcbgdhadaaDoor
