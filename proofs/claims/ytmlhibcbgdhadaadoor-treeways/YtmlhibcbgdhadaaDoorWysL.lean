/- Kids and Path of any nodes and numbers, asked twice: the walk. -/
import Derived.Test.YtmlhibcbgdhadaaDoorRefW
import Derived.Test.YtmlhibcbgdhadaaDoorStl
import Derived.Test.YtmlhibcbgdhadaaDoorBound
import Derived.Test.YtmlhibcbgdhadaaDoorNumAll
namespace Go.Proofs.YtmlhibcbgdhadaaDoor
open Go.RowKit

instance : Inhabited Int := ⟨0⟩
theorem read_intI {H : Type} {enc : TypeId × Value → H} {W : World} (n : Nat) (cs : List Value) (x : DataW H × List MemPlace) (h : DataW.trod enc Tryd.prog W 0 (fun _ => true) true n 3 cs = some x) : ∃ g : Int, cs = (fun z : Int => [Value.int .i64 z]) g ∧ I64 g := by
  obtain ⟨z, e0, _, wz⟩ := DataW.trod_int Tryd.underlying3 h
  exact ⟨z, e0, by unfold I64; simpa [Lit.wf, IntKind.min, IntKind.max, IntKind.signed, IntKind.bits] using wz⟩
theorem flat_ivI (l : List Int) : l.flatMap (fun z : Int => [Value.int .i64 z]) = ivI l := by
  unfold ivI
  induction l with
  | nil => rfl
  | cons a l ih => rw [List.flatMap_cons, ih]; rfl
theorem ints_of {H : Type} {enc : TypeId × Value → H} {W : World} {fuel : Nat} {cs : List Value} {x : DataW H × List MemPlace} (h : DataW.trod enc Tryd.prog W 0 (fun _ => true) true fuel 36 cs = some x) :
    ∃ a0 cap, ∃ xs : List Int, cs = [.slice a0 xs.length cap] ∧ xs.length ≤ cap ∧ xs.length ≤ 9223372036854775807 ∧ Sl W a0 xs.length (ivI xs) ∧ ∀ x ∈ xs, I64 x := by
  obtain ⟨a0, cap, xs, h1, hc, h2, h3, h4⟩ := list_of (en := fun z : Int => [Value.int .i64 z]) (p := I64) (by decide) (fun _ => rfl) Tryd.underlying36 oCells3 read_intI h
  rw [flat_ivI] at h3
  exact ⟨a0, cap, xs, h1, hc, h2, h3, h4⟩
theorem kids_len (ns : List Nd) (n : Int) : (kidsOf ns n).length ≤ ns.length := by
  unfold kidsOf kidsL
  split
  · exact Nat.le_trans (List.length_filter_le _ _) (by simp)
  · exact Nat.zero_le _
theorem path_len (ns : List Nd) (n : Int) : (pathOf ns n).length ≤ ns.length := by
  unfold pathOf
  split
  · next h =>
    obtain ⟨hd, h0, h1⟩ := hasN_doc h
    have := way_len hd.2.2.pn n.toNat (by omega)
    omega
  · exact Nat.zero_le _
/-- two rows of ints that hold the same -/
theorem same_rows {w : World} {B C : Nat} {v v' : Value} {l : List Nat} (h : RI w B v l) (h' : RI w C v' l) (hl : l.length ≤ 4294967296) :
    ∃ ad n cp ad' cp', v = .slice ad n cp ∧ v' = .slice ad' n cp' ∧ n = l.length ∧ ∀ W, Only [] w W → Calls Tryd.prog 22 #[.slice ad n cp, .slice ad' n cp'] W fun e w' => e = .returned (.bool true) ∧ Only [] W w' := by
  obtain ⟨ad, cp, rfl, h1, -⟩ := row_reads h
  obtain ⟨ad', cp', rfl, h2, -⟩ := row_reads h'
  refine ⟨ad, l.length, cp, ad', cp', rfl, rfl, rfl, fun W o => ?_⟩
  rw [ivs_ivI] at h1 h2
  exact ints_eq (a := l.map fun (k : Nat) => (k : Int)) l.length (by simp) W (h1.only o) (h2.only o) hl
/-- an int is stored into a row of one's own -/
theorem row_store {w : World} {B n c j : Nat} {ad : Option Addr} {xs : List Value} (h : w.ownsRow B 3 1 (.slice ad n c) n xs) (hj : j < n) :
    ∃ b, ad = some ⟨b, 0, none⟩ ∧ B ≤ b ∧ b < w.heap.size ∧ w.frozen? ⟨b, j, none⟩ = false ∧ (∃ u, w.cell? ⟨b, j, none⟩ = some u) ∧ ∀ v, (w.setCell ⟨b, j, none⟩ v).ownsRow B 3 1 (.slice ad n c) n (xs.set j v) := by
  obtain ⟨b, cur, rfl, h1, h2, h3⟩ := row_put h (k := j) (by omega)
  have := row_ge h b rfl
  exact ⟨b, rfl, this.1, this.2, h1.froz _, h2, h3⟩
theorem row_apart {w w' : World} {B' n' : Nat} {v v' : Value} {ys : List Value} (g : w.grownBy w' v.ownBlock) (k : w.ownsRow B' 3 1 v' n' ys) (hne : ∀ b, v.ownBlock = some b → v'.ownBlock ≠ some b) : w'.ownsRow B' 3 1 v' n' ys := by
  refine k.kept g ?_
  rcases hb : v'.ownBlock with _ | b
  · exact .inl rfl
  · exact .inr fun q => hne b q.symm hb
theorem grew_apart {w w' : World} {B' n' : Nat} {v v2 v' : Value} {ys : List Value} (g : Grew w w' v v2) (k : w.ownsRow B' 3 1 v' n' ys) (hne : ∀ b, v.ownBlock = some b → v'.ownBlock ≠ some b) : ∀ b, v2.ownBlock = some b → v'.ownBlock ≠ some b := fun b hb => by
  rcases g with ⟨h1, -⟩ | ⟨h1, -⟩
  · exact hne b (h1.symm.trans hb)
  · intro h2
    rw [h1] at hb
    have := (row_ge k b h2).2
    have hb2 : w.heap.size = b := Option.some.inj hb
    omega
set_option maxRecDepth 100000 in
set_option maxHeartbeats 16000000 in
theorem ways_law {l : List (Nd × Value)} {asked : List Int} {ad qd : Option Addr} {ca cq : Nat} (w : World) (hA : NL w w.heap.size ad l) (hla : l.length ≤ 9223372036854775807) (hia : ∀ x ∈ l, In w x) (hQ : Sl w qd asked.length (ivI asked)) (hlq : asked.length ≤ 9223372036854775807) (hT : Tt w) :
    Calls Tryd.prog 5 #[.slice ad l.length ca, .slice qd asked.length cq] w fun e w' => e = .returned (.bool true) ∧ Only [] w w' := by
  have HBA := hid (beyond_any (cap := ca) w hA hla (fun x hx => ⟨(hia x hx).font, (hia x hx).chs⟩))
  have HNA := hid hA
  have HIA := hid hia
  have HQ := hid hQ
  have HT := hid hT
  obtain ⟨n, hn⟩ : ∃ n, l.length = n := ⟨_, rfl⟩
  obtain ⟨m, hm⟩ : ∃ m, asked.length = m := ⟨_, rfl⟩
  have HN := hid hn
  have HM := hid hm
  rw [hn] at hla HBA ⊢
  rw [hm] at hlq ⊢
  clear hA hia hQ hT hn hm
  obtain ⟨i3, hi3, z30, z31, z32⟩ := info_parts info3
  go_enter Tryd.func5, Tryd.ntmps5
  go_wp2_with fail
  refine HBA.out.mono ?_
  rintro e w1 ⟨⟨r1, rfl, hr⟩, o1⟩
  have H1 := hid o1
  have HR1 := hid hr
  clear o1 hr HBA
  cases r1
  case true =>
    go_wp2_with fail
    go_ret
    exact ⟨rfl, H1.out⟩
  case false =>
    have hba := HR1.out (by first | rfl | trivial)
    have lenA : (nds l).length = n := by rw [← HN.out]; simp
    have KA : ∀ x ∈ nds l, x.chs.length + x.font.size ≤ 2147483647 := fun x hx => by have := bulk_mem hx; rw [lenA] at this; omega
    have HFA : Hid (∀ x ∈ nds l, Fit x) := fun x hx => by
      obtain ⟨y, hy, rfl⟩ := List.mem_map.1 hx
      have := KA _ hx
      exact (HIA.out y hy).fit (by omega) (by omega)
    have HFA' : Hid (∀ x ∈ l, Fit x.1) := fun x hx => HFA.out _ (List.mem_map_of_mem (f := Prod.fst) hx)
    have HCA : Hid (∀ x ∈ l, x.1.chs.length ≤ 2147483647) := fun x hx => by have := KA _ (List.mem_map_of_mem (f := Prod.fst) hx); omega
    have hn31 : n ≤ 2147483647 := by omega
    have HLA := hid (fun W (o : Only [] w W) => lend_c (cap := ca) W (HNA.out.still o) o.size HCA.out (by rw [HN.out]; exact hn31))
    have HRK := hid (fun q W (o : Only [] w W) => refKids_c (cap := ca) q (by rw [HN.out]; omega) HFA'.out W (HNA.out.still o))
    have HRP := hid (fun q W (o : Only [] w W) => refPath_c (cap := ca) q (by rw [HN.out]; omega) HFA'.out W (HNA.out.still o))
    rw [HN.out] at HLA HRK HRP
    have HKL : Hid (∀ q, (kidsOf (nds l) q).length ≤ 2147483647) := fun q => by have := kids_len (nds l) q; omega
    have HPL : Hid (∀ q, (pathOf (nds l) q).length ≤ 2147483647) := fun q => by have := path_len (nds l) q; omega
    clear hba KA lenA HR1
    go_wp2_with fail
    refine (shown_any _ (HT.out.only H1.out (by simp))).mono ?_
    rintro e w2 ⟨rfl, o⟩
    have H2 := hid (H1.out.trans o)
    clear o
    go_wp2_with fail
    refine (HLA.out _ H2.out).mono ?_
    rintro e w3 ⟨⟨xa, aa, ac, va, ps, rfl, -, hps, hX⟩, o⟩
    have H3 := hid (H2.out.trans o)
    have HX := hid hX
    have HPS := hid hps
    have hpn : ps.length = n := by rw [← HN.out, show l.length = (nds l).length by simp, ← hps]; simp
    have HPN := hid hpn
    have hra := hX.room
    rw [hpn] at hra
    have hra1 : n ≤ ac := by omega
    have hra2 : (n : Int) ≤ (ac : Int) := by omega
    have hn0 : (0 : Int) ≤ (n : Int) := by omega
    have HKI : Hid (∀ q W, Only [] w3 W → Calls Tryd.prog 20 #[.slice (some ⟨aa, 0, none⟩) n ac, .int .i64 q] W fun e w' => ∃ v, e = .returned v ∧ RI w' W.heap.size v (kidsOf (nds l) q) ∧ Only [] W w') := fun q W o => by
      have := kids_c (cap := ac) q (by rw [List.length_map, hpn]; omega) (fun x hx => HFA.out _ (by rw [← hps, ← ly_nds]; exact List.mem_map_of_mem (f := Prod.fst) hx)) W (hX.still o).nl (Nat.le_refl _) (HT.out.only (H3.out.trans o) (by simp))
      rw [ly_nds, hps, List.length_map, hpn] at this
      exact this
    have HPI : Hid (∀ q W, Only [] w3 W → Calls Tryd.prog 21 #[.slice (some ⟨aa, 0, none⟩) n ac, .int .i64 q] W fun e w' => ∃ v, e = .returned v ∧ RI w' W.heap.size v (pathOf (nds l) q) ∧ Only [] W w') := fun q W o => by
      have := paths_c (cap := ac) q (by rw [List.length_map, hpn]; omega) (fun x hx => HFA.out _ (by rw [← hps, ← ly_nds]; exact List.mem_map_of_mem (f := Prod.fst) hx)) W (hX.still o).nl (Nat.le_refl _) (HT.out.only (H3.out.trans o) (by simp))
      rw [ly_nds, hps, List.length_map, hpn] at this
      exact this
    have HSTI := hid (fun W (o : Only [] w3 W) => still_any (cap := ca) W (HNA.out.still (H3.out.trans o)) HCA.out (by rw [HN.out]; exact hn31) (hX.still o) hps)
    rw [HN.out] at HSTI
    have x0 := Blk.cell hX.bx 0
    simp only [List.getElem?_cons_zero] at x0
    rw [hpn] at x0
    clear o hX hps hpn HLA
    go_wp2_with fail
    go_loopw [7] (fun v wr => ∃ i : Nat, v = .int .i64 i ∧ i ≤ m ∧ Hid (Only [] w3 wr)) (fun v _ => m - (RowKit.intOf v).toNat)
    case atStart => exact ⟨0, rfl, by omega, Only.refl _ _⟩
    case round =>
      obtain ⟨i, rfl, hi, ho⟩ := hrel
      by_cases hlt : i < m
      · have hil : (i : Int) < (m : Int) := by omega
        have hi0 : (0 : Int) ≤ (i : Int) := by omega
        by_cases h12 : i < 12
        · have hi12 : (i : Int) < 12 := by omega
          have hik : i < asked.length := by rw [HM.out]; exact hlt
          obtain ⟨bq, oq, rfl, haq⟩ := HQ.out (by omega)
          obtain ⟨q, hq⟩ : ∃ q, asked[i] = q := ⟨_, rfl⟩
          have HCQ : Hid (∀ W, Only [] w W → W.cell? ⟨bq, oq + i, none⟩ = some (.int .i64 q)) := fun W o => cell_keep o haq.1 (haq.2 i _ (by rw [← hq]; exact ivI_get hik))
          have HLT := hid hlt
          clear haq hq hik hlt h12
          go_wp2_with fail
          go_loopw [8] (fun v wr => ∃ k : Nat, v = .int .i64 k ∧ k ≤ 2 ∧ Hid (Only [] w3 wr)) (fun v _ => 2 - (RowKit.intOf v).toNat)
          case atStart => exact ⟨0, rfl, by omega, ho.out⟩
          case round =>
            clear ho
            obtain ⟨k, rfl, hk, ho⟩ := hrel
            by_cases hlt2 : k < 2
            · have hk2 : (k : Int) < 2 := by omega
              have hk0 : (0 : Int) ≤ (k : Int) := by omega
              have HL2 := hid hlt2
              clear hlt2
              obtain ⟨wz, hwz⟩ : ∃ wz, wr = wz := ⟨_, rfl⟩
              have HOZ : Hid (Only [] w3 wz) := hwz ▸ ho.out
              rw [hwz] at ho ⊢
              clear hwz ho
              have cq0 := HCQ.out _ (H3.out.trans HOZ.out)
              go_wp2_with fail
              refine (HKI.out q _ HOZ.out).mono ?_
              rintro e w4 ⟨v9, rfl, hr9, o⟩
              have H4 := hid o
              have HR9 := hid hr9
              have cq1 := HCQ.out _ (H3.out.trans (HOZ.out.trans o))
              clear o hr9 cq0
              go_wp2_with fail
              refine (HPI.out q _ (HOZ.out.trans H4.out)).mono ?_
              rintro e w5 ⟨v10, rfl, hr10, o⟩
              have H5 := hid (H4.out.trans o)
              have HR10 := hid hr10
              have HD : Hid (∀ b, v9.ownBlock = some b → v10.ownBlock ≠ some b) := fun b hb hb2 => by
                have h1 := (row_ge hr10 b hb2).1
                have h2 := (row_ge HR9.out b hb).2
                omega
              have HR9 : Hid (RI w5 wz.heap.size v9 (kidsOf (nds l) q)) := row_only HR9.out o (by simp)
              have cq2 := HCQ.out _ (H3.out.trans (HOZ.out.trans H5.out))
              clear o hr10 cq1
              go_wp2_with fail
              refine (HRK.out q _ (H3.out.trans (HOZ.out.trans H5.out))).mono ?_
              rintro e w6 ⟨⟨v11, rfl, hr11⟩, o⟩
              have H6 := hid (H5.out.trans o)
              have HR9 : Hid (RI w6 wz.heap.size v9 (kidsOf (nds l) q)) := row_only HR9.out o (by simp)
              have HR10 : Hid (RI w6 w4.heap.size v10 (pathOf (nds l) q)) := row_only HR10.out o (by simp)
              obtain ⟨a9, n9, c9, a11, c11, hv9, hv11, hn9, hsame⟩ := same_rows HR9.out hr11 (by have := HKL.out q; omega)
              subst hv9 hv11
              have HS9 := hid hsame
              have HN9 := hid hn9
              have hb9 : n9 ≤ 2147483647 := by rw [hn9]; exact HKL.out q
              clear o hr11 cq2 hn9 hsame
              go_wp2_with fail
              refine (HS9.out _ (Only.refl _ _)).mono ?_
              rintro e w7 ⟨rfl, o⟩
              have H7 := hid (H6.out.trans o)
              have HR9 : Hid (RI w7 wz.heap.size (.slice a9 n9 c9) (kidsOf (nds l) q)) := row_only HR9.out o (by simp)
              have HR10 : Hid (RI w7 w4.heap.size v10 (pathOf (nds l) q)) := row_only HR10.out o (by simp)
              have cq3 := HCQ.out _ (H3.out.trans (HOZ.out.trans H7.out))
              clear o HS9
              go_wp2_with fail
              refine (HRP.out q _ (H3.out.trans (HOZ.out.trans H7.out))).mono ?_
              rintro e w8 ⟨⟨v12, rfl, hr12⟩, o⟩
              have H8 := hid (H7.out.trans o)
              have HR9 : Hid (RI w8 wz.heap.size (.slice a9 n9 c9) (kidsOf (nds l) q)) := row_only HR9.out o (by simp)
              have HR10 : Hid (RI w8 w4.heap.size v10 (pathOf (nds l) q)) := row_only HR10.out o (by simp)
              obtain ⟨a10, n10, c10, a12, c12, hv10, hv12, hn10, hsame⟩ := same_rows HR10.out hr12 (by have := HPL.out q; omega)
              subst hv10 hv12
              have HS10 := hid hsame
              have HN10 := hid hn10
              have hb10 : n10 ≤ 2147483647 := by rw [hn10]; exact HPL.out q
              clear o hr12 cq3 hn10 hsame
              go_wp2_with fail
              refine (HS10.out _ (Only.refl _ _)).mono ?_
              rintro e w9 ⟨rfl, o⟩
              have H9 := hid (H8.out.trans o)
              have HR9 : Hid (RI w9 wz.heap.size (.slice a9 n9 c9) (kidsOf (nds l) q)) := row_only HR9.out o (by simp)
              have HR10 : Hid (RI w9 w4.heap.size (.slice a10 n10 c10) (pathOf (nds l) q)) := row_only HR10.out o (by simp)
              clear o HS10
              go_wp2_with fail
              go_loopw [11] (fun v wr => ∃ (j : Nat) (xs : List Value), v = .int .i64 j ∧ j ≤ n9 ∧ Hid (wr.ownsRow wz.heap.size 3 1 (.slice a9 n9 c9) n9 xs ∧ RI wr w4.heap.size (.slice a10 n10 c10) (pathOf (nds l) q) ∧ Only [] wz wr)) (fun v _ => n9 - (RowKit.intOf v).toNat)
              case atStart => exact ⟨0, _, rfl, by omega, by have := HR9.out; unfold RI at this; rw [← HN9.out] at this; exact this, HR10.out, H9.out⟩
              case round =>
                obtain ⟨j, xs, rfl, hj, hst⟩ := hrel
                by_cases hjl : j < n9
                · obtain ⟨b, rfl, hb1, hb2, hfz, ⟨u, hu⟩, hset⟩ := row_store hst.out.1 hjl
                  have HS := hid (hset (.int .i64 (-5)))
                  have HT10 := hid (ownsRow_setCell_other hst.out.2.1 (a := ⟨b, j, none⟩) (HD.out b rfl) (.int .i64 (-5)))
                  have HOJ := hid (hst.out.2.2.set (p := ⟨b, j, none⟩) (.inr hb1) (.int .i64 (-5)))
                  have hji : (j : Int) < (n9 : Int) := by omega
                  have hj0 : (0 : Int) ≤ (j : Int) := by omega
                  have HJL := hid hjl
                  clear hset hst hjl
                  go_wp2_with fail
                  go_roundw
                  case rel => exact ⟨j + 1, _, by go_num, HJL.out, HS.out, HT10.out, HOJ.out⟩
                  case measure => have := HJL.out; simp [RowKit.intOf]; omega
                · have hji : ¬ (j : Int) < (n9 : Int) := by omega
                  clear hjl
                  go_wp2_with fail
                  go_loopw [9, 12] (fun v0 v wr => ∃ (j nn : Nat) (rv : Value) (xs : List Value), v0 = rv ∧ v = .int .i64 j ∧ j ≤ 9 ∧ nn ≤ 2147483647 + j ∧ Hid (wr.ownsRow wz.heap.size 3 1 rv nn xs ∧ RI wr w4.heap.size (.slice a10 n10 c10) (pathOf (nds l) q) ∧ Only [] wz wr ∧ (∀ b, rv.ownBlock = some b → (Value.slice a10 n10 c10).ownBlock ≠ some b))) (fun _ v _ => 9 - (RowKit.intOf v).toNat)
                  case atStart => exact ⟨0, n9, _, xs, rfl, rfl, by omega, by omega, hst.out.1, hst.out.2.1, hst.out.2.2, HD.out⟩
                  case round =>
                    clear hst hj hji
                    obtain ⟨j2, nn, rv, ys, rfl, rfl, hj2, hnn, hst2⟩ := hrel
                    by_cases h9 : j2 < 9
                    · have h9i : (j2 : Int) < 9 := by omega
                      have hj0 : (0 : Int) ≤ (j2 : Int) := by omega
                      obtain ⟨ad2, cp2, hve, -, -⟩ := row_reads hst2.out.1
                      subst hve
                      have hql : nn + 1 ≤ maxLen := by unfold maxLen; omega
                      have hqb : (nn + 1) * 8 ≤ 140737488355328 := by omega
                      have H9L := hid h9
                      go_wp2_with (at_builtin; refine wpList_append_sl _ rfl _ _ 36 rfl wz.heap.size 3 i3 _ 1 8 Tryd.underlying36 hi3 z30 z31 z32 rfl (by decide) (.slice ad2 nn cp2) nn ys (by rfl) ?qc1 (some ⟨wr.heap.size, 0, none⟩) 1 1 [.int .i64 (-9)] (by rfl) rfl ?qc2 ?qc3 hql hqb ?qc4 ?_)
                      case qc1 => exact row_only hst2.out.1 ((Only.refl [] wr).alloc _) (by simp)
                      case qc2 => exact sl_newest wr [.int .i64 (-9)] 3 rfl
                      case qc3 => first | rfl | (intro u hu; simp at hu; subst hu; rfl)
                      case qc4 => have := hst2.out.2.2.1.size; simp; omega
                      intro v2 w6' hown hgrew
                      have HOW := hid hown
                      have k10 : (wr.alloc (.cells #[.int .i64 (-9)] 3)).ownsRow w4.heap.size 3 1 (.slice a10 n10 c10) (pathOf (nds l) q).length (ivs (pathOf (nds l) q)) := row_only hst2.out.2.1 ((Only.refl [] wr).alloc _) (by simp)
                      have HK10 : Hid (RI w6' w4.heap.size (.slice a10 n10 c10) (pathOf (nds l) q)) := row_apart hgrew.grown k10 hst2.out.2.2.2
                      have HAP := hid (grew_apart hgrew k10 hst2.out.2.2.2)
                      have HG := hid (only_grow (L := []) (hst2.out.2.2.1.alloc (.cells #[.int .i64 (-9)] 3)) hgrew.grown (fun b hb => .inr (row_ge hst2.out.1 b hb).1))
                      clear hown hgrew k10 hst2 h9
                      go_wp2_with fail
                      go_roundw
                      case rel => exact ⟨j2 + 1, nn + 1, v2, _, rfl, by go_num, H9L.out, by omega, HOW.out, HK10.out, HG.out, HAP.out⟩
                      case measure => have := H9L.out; simp [RowKit.intOf]; omega
                    · have h9i : ¬ (j2 : Int) < 9 := by omega
                      have HR10 := hid hst2.out.2.1
                      have HOX := hid hst2.out.2.2.1
                      clear hst2 h9
                      have cq4 := HCQ.out _ (H3.out.trans (HOZ.out.trans HOX.out))
                      go_wp2_with fail
                      refine (HRP.out q _ (H3.out.trans (HOZ.out.trans HOX.out))).mono ?_
                      rintro e w12 ⟨⟨v12, rfl, hr12⟩, o⟩
                      have H12 := hid (HOX.out.trans o)
                      have HR10 : Hid (RI w12 w4.heap.size (.slice a10 n10 c10) (pathOf (nds l) q)) := row_only HR10.out o (by simp)
                      obtain ⟨b10, m10, d10, b12, d12, hv10, hv12, hm10, hsame⟩ := same_rows HR10.out hr12 (by have := HPL.out q; omega)
                      injection hv10 with hv10a hv10b hv10c
                      subst hv10a hv10b hv10c hv12
                      have HS10 := hid hsame
                      clear o hr12 cq4 hsame hm10
                      go_wp2_with fail
                      refine (HS10.out _ (Only.refl _ _)).mono ?_
                      rintro e w13 ⟨rfl, o⟩
                      have H13 := hid (H12.out.trans o)
                      have HR10 : Hid (RI w13 w4.heap.size (.slice a10 n10 c10) (pathOf (nds l) q)) := row_only HR10.out o (by simp)
                      clear o HS10
                      go_wp2_with fail
                      go_loopw [13] (fun v wr => ∃ (j : Nat) (xs : List Value), v = .int .i64 j ∧ j ≤ n10 ∧ Hid (wr.ownsRow w4.heap.size 3 1 (.slice a10 n10 c10) n10 xs ∧ Only [] wz wr)) (fun v _ => n10 - (RowKit.intOf v).toNat)
                      case atStart => exact ⟨0, _, rfl, by omega, by have := HR10.out; unfold RI at this; rw [← HN10.out] at this; exact this, H13.out⟩
                      case round =>
                        obtain ⟨j3, zs, rfl, hj3, hst3⟩ := hrel
                        by_cases hjl : j3 < n10
                        · obtain ⟨b, rfl, hb1, hb2, hfz, ⟨u, hu⟩, hset⟩ := row_store hst3.out.1 hjl
                          have HS := hid (hset (.int .i64 (-5)))
                          have HOJ := hid (hst3.out.2.set (p := ⟨b, j3, none⟩) (.inr (Nat.le_trans H4.out.size hb1)) (.int .i64 (-5)))
                          have hji : (j3 : Int) < (n10 : Int) := by omega
                          have hj0 : (0 : Int) ≤ (j3 : Int) := by omega
                          have HJL := hid hjl
                          clear hset hst3 hjl
                          go_wp2_with fail
                          go_roundw
                          case rel => exact ⟨j3 + 1, _, by go_num, HJL.out, HS.out, HOJ.out⟩
                          case measure => have := HJL.out; simp [RowKit.intOf]; omega
                        · have hji : ¬ (j3 : Int) < (n10 : Int) := by omega
                          have HOJ := hid hst3.out.2
                          clear hst3 hjl
                          go_wp2_with fail
                          go_roundw
                          case rel => exact ⟨k + 1, by go_num, HL2.out, HOZ.out.trans HOJ.out⟩
                          case measure => have := HL2.out; simp [RowKit.intOf]; omega
            · have hk2 : ¬ (k : Int) < 2 := by omega
              go_wp2_with fail
              go_roundw
              case rel => exact ⟨i + 1, by go_num, HLT.out, ho.out⟩
              case measure => have := HLT.out; simp [RowKit.intOf]; omega
        · have hi12 : ¬ (i : Int) < 12 := by omega
          have d12 : decide ((i : Int) < 12) = false := decide_eq_false hi12
          have d12' : decide (i < 12) = false := decide_eq_false h12
          go_wp2_with fail
          refine (HSTI.out _ ho.out).mono ?_
          rintro e w10 ⟨rfl, o⟩
          have HO10 := hid (H3.out.trans (ho.out.trans o))
          clear o
          go_wp2_with fail
          go_ret
          exact ⟨rfl, HO10.out⟩
      · have hil : ¬ (i : Int) < (m : Int) := by omega
        have d12 : decide ((i : Int) < (m : Int)) = false := decide_eq_false hil
        have d12' : decide (i < m) = false := decide_eq_false hlt
        go_wp2_with fail
        refine (HSTI.out _ ho.out).mono ?_
        rintro e w10 ⟨rfl, o⟩
        have HO10 := hid (H3.out.trans (ho.out.trans o))
        clear o
        go_wp2_with fail
        go_ret
        exact ⟨rfl, HO10.out⟩
end Go.Proofs.YtmlhibcbgdhadaaDoor
