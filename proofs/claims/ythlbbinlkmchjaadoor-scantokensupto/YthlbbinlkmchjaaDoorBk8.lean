/- The law's book: it is written over. -/
import Derived.Test.YthlbbinlkmchjaaDoorBkOne
namespace Go.Proofs.YthlbbinlkmchjaaDoor
open Go.RowKit

theorem litT_one (i : Nat) : ∀ u ∈ ([.int .i64 (-4), .int .i64 i, .int .i64 0, .string ⟨#[]⟩, .string ⟨#[]⟩, .slice none 0 0, .bool false] : List Value), u.oneCell' = true := htc_one [mkT i]
theorem litC_one (i : Nat) : ∀ u ∈ ([.int .i64 (-4), .int .i64 i, .int .i64 0] : List Value), u.oneCell' = true := cic_one [mkC i]

set_option maxRecDepth 100000 in
set_option maxHeartbeats 16000000 in
theorem write_c {W : World} {hb B : Nat} {es rs : List En} {fw gw : Nat} (hbk : Book W hb B es rs fw gw) (hne : es.length ≤ 100000) (hnr : rs.length ≤ 100000000000) :
    Calls Tryd.prog 11 #[.pointer (some ⟨hb, 0, none⟩)] W fun e w' => e = .returned (.bool true) ∧ ∃ es1 rs1, Book w' hb B es1 rs1 es1.length rs1.length ∧ es1.length ≤ 2 * es.length ∧ rs1.length ≤ 2 * rs.length ∧ FrT [27, 32, 44, 48, 50] B W w' := by
  obtain ⟨i32, hi32, z320, z321, z322⟩ := info_parts info32
  obtain ⟨i44, hi44, z440, z441, z442⟩ := info_parts info44
  obtain ⟨i48, hi48, z480, z481, z482⟩ := info_parts info48
  obtain ⟨i50, hi50, z500, z501, z502⟩ := info_parts info50
  have HB0 := hid hbk
  obtain ⟨vo, vw, vr, vq, hk, hes, hrs, hfe, hgr, hbe, hbr⟩ := hbk
  have HBD := hid (And.intro hbe hbr)
  obtain ⟨lo, hlo⟩ : ∃ lo, es.map (·.v) = lo := ⟨_, rfl⟩
  obtain ⟨lw, hlw⟩ : ∃ lw, es.map (·.u) = lw := ⟨_, rfl⟩
  obtain ⟨lr, hlr⟩ : ∃ lr, rs.map (·.v) = lr := ⟨_, rfl⟩
  obtain ⟨lq, hlq⟩ : ∃ lq, rs.map (·.u) = lq := ⟨_, rfl⟩
  obtain ⟨ns, hns⟩ : ∃ l, es.map (·.n) = l := ⟨_, rfl⟩
  obtain ⟨ms, hms⟩ : ∃ l, rs.map (·.n) = l := ⟨_, rfl⟩
  obtain ⟨ne, hne1⟩ : ∃ n, es.length = n := ⟨_, rfl⟩
  obtain ⟨nr, hnr1⟩ : ∃ n, rs.length = n := ⟨_, rfl⟩
  have hl1 : lo.length = ne := by rw [← hlo, List.length_map, hne1]
  have hl2 : lw.length = ne := by rw [← hlw, List.length_map, hne1]
  have hl3 : lr.length = nr := by rw [← hlr, List.length_map, hnr1]
  have hl4 : lq.length = nr := by rw [← hlq, List.length_map, hnr1]
  have hl5 : ns.length = ne := by rw [← hns, List.length_map, hne1]
  have hl6 : ms.length = nr := by rw [← hms, List.length_map, hnr1]
  have HLEN := hid (And.intro hl1 (And.intro hl2 (And.intro hl3 (And.intro hl4 (And.intro hl5 hl6)))))
  rw [hlo, hlw, hlr, hlq] at hk
  have HBN : Hid ((∀ (i n : Nat), ns[i]? = some n → fw ≤ i → n ≤ 4294967296) ∧ (∀ (i n : Nat), ms[i]? = some n → gw ≤ i → n ≤ 4294967296)) := hid (by
    constructor
    · intro i n hi hf
      obtain ⟨e, he, rfl⟩ := map_get hns hi
      exact hbe i e he hf
    · intro i n hi hf
      obtain ⟨e, he, rfl⟩ := map_get hms hi
      exact hbr i e he hf)
  have HNB : Hid ((∀ n ∈ ns, n ≤ 8589934592) ∧ (∀ n ∈ ms, n ≤ 8589934592)) := hid (by
    constructor
    · intro n hn
      rw [← hns] at hn
      obtain ⟨e, he, rfl⟩ := List.mem_map.1 hn
      obtain ⟨_, _, _, h⟩ := hes.sh e he
      exact h
    · intro n hn
      rw [← hms] at hn
      obtain ⟨e, he, rfl⟩ := List.mem_map.1 hn
      obtain ⟨_, _, _, h⟩ := hrs.sh e he
      exact h)
  have HWB := hid (show ∀ W', Only [] W W' → WB W hb B vo vw vr vq lo lw lr lq fw gw ns ms W' from fun W' ho =>
    ⟨hk.still ho, ⟨es, hlo, hlw, hns, hes.keep ho (by simp)⟩, ⟨rs, hlr, hlq, hms, hrs.keep ho (by simp)⟩, FrT.only ho (by have := hk.c.lt; have := hk.bb; omega)⟩)
  have HL := hid (And.intro hlo (And.intro hlw (And.intro hlr (And.intro hlq (And.intro hns (And.intro hms (And.intro hne1 hnr1)))))))
  have hHH : ∀ W', Only [] W W' → Book W' hb B es rs fw gw := fun W' ho => by
    refine ⟨vo, vw, vr, vq, ?_, hes.keep ho (by simp), hrs.keep ho (by simp), hfe, hgr, hbe, hbr⟩
    rw [hlo, hlw, hlr, hlq]
    exact hk.still ho
  have HH1 := hid (holds_c HB0.out (by omega) (by omega))
  rw [hne1] at hfe
  rw [hnr1] at hgr
  rw [hne1] at hne
  rw [hnr1] at hnr
  have HBK := hid hk
  have HFG := hid (And.intro hfe hgr)
  obtain ⟨ado, capo, hvo, -, -⟩ := row_reads hk.ro
  obtain ⟨adw, capw, hvw, -, -⟩ := row_reads hk.rw_
  obtain ⟨adr, capr, hvr, -, -⟩ := row_reads hk.rr
  obtain ⟨adq, capq, hvq, -, -⟩ := row_reads hk.rq
  rw [hl1] at hvo
  rw [hl2] at hvw
  rw [hl3] at hvr
  rw [hl4] at hvq
  subst hvo
  subst hvw
  subst hvr
  subst hvq
  clear hk hes hrs hbe hbr hlo hlw hlr hlq hns hms hne1 hnr1 hl1 hl2 hl3 hl4 hl5 hl6 hHH
  go_enter Tryd.func11, Tryd.ntmps11
  go_wp2_with fail
  refine HH1.out.mono ?_
  rintro e' w1 ⟨rfl, ho1⟩
  have hw1 := HWB.out w1 ho1
  have HW1 := hid hw1
  have HO1 := hid ho1
  have HWS := HW1
  clear hw1 ho1
  have cf : w1.cell? ⟨hb, 4, none⟩ = some (.int .i64 fw) := HWS.out.bk.c.cell 4
  have c0 : w1.cell? ⟨hb, 0, none⟩ = some (.slice ado ne capo) := HWS.out.bk.c.cell 0
  go_upto_region 2 with fail
  go_cut [4, 5] from 20 to 28 (fun x y wx => x = .int .i64 fw ∧ y = .int .i64 ne ∧ Only [] w1 wx)
  case first =>
    go_region_law (fail)
    all_goals
      go_wp2
      go_meet
      case rel => exact ⟨rfl, rfl, by repeat (first | exact Only.refl _ _ | refine Only.drewN ?_ _ | refine Only.drew ?_)⟩
  case rest =>
  obtain ⟨rfl, rfl, ho2⟩ := hcut
  clear cf c0
  have HW3 := hid (HWS.out.only ho2)
  go_wp2_with fail
  go_loopw [6] (fun i wr => ∃ k : Nat, i = .int .i64 k ∧ fw ≤ k ∧ k ≤ ne ∧ WB W hb B (.slice ado ne capo) (.slice adw ne capw) (.slice adr nr capr) (.slice adq nr capq) lo lw lr lq fw gw ns ms wr) (fun i _ => ne - (RowKit.intOf i).toNat)
  case atStart => exact ⟨fw, rfl, Nat.le_refl _, hfe, HW3.out⟩
  case round =>
    obtain ⟨i, rfl, hi1, hi2, hwb⟩ := hrel
    have HWR := hid hwb
    have hz : (ne : Int) ≤ 100000 := by omega
    have hk0 : (0 : Int) ≤ (i : Int) := by omega
    by_cases hlt : i < ne
    · obtain ⟨n, hn⟩ := some_at (xs := ns) (i := i) (by rw [HLEN.out.2.2.2.2.1]; exact hlt)
      have HN := hid hn
      have hrow := hwb.bk.ro
      rw [HLEN.out.1] at hrow
      obtain ⟨es', g1, g2, g3, g4⟩ := hwb.es
      obtain ⟨e, he, hen⟩ := map_get g3 hn
      have hlv : lo[i]? = some e.v := by rw [← g1]; exact map_at he
      obtain ⟨b1, rfl, hb1, q1⟩ := row_cell hrow hlv
      obtain ⟨⟨a1, c1, e1, s1⟩, -⟩ := g4.rd e (List.mem_of_getElem? he)
      rw [e1, hen] at q1
      rw [e1, hen] at hlv
      have HLV := hid hlv
      have m0 : wr.cell? ⟨hb, 0, none⟩ = some (.slice (some ⟨b1, 0, none⟩) ne capo) := hwb.bk.c.cell 0
      have hkl : (i : Int) < (ne : Int) := by omega
      have HLT := hid (And.intro hlt hi1)
      have hnb : (n : Int) ≤ 8589934592 := by have := HNB.out.1 n (List.mem_of_getElem? hn); omega
      clear hlt he hn hrow e1 s1 g1 g2 g3 g4 hlv hwb hen hb1
      go_wp2_with fail
      clear q1 m0
      go_loopw [43] (fun vi wr2 => ∃ j : Nat, vi = .int .i64 j ∧ j ≤ n ∧ WB W hb B (.slice (some ⟨b1, 0, none⟩) ne capo) (.slice adw ne capw) (.slice adr nr capr) (.slice adq nr capq) lo lw lr lq fw gw ns ms wr2) (fun vi _ => n - (RowKit.intOf vi).toNat)
      case atStart => exact ⟨0, rfl, by omega, HWR.out⟩
      case round =>
        obtain ⟨j, rfl, hj, hwj⟩ := hrel
        have HWJ := hid hwj
        have hj0 : (0 : Int) ≤ (j : Int) := by omega
        by_cases hlt : j < n
        · obtain ⟨b3, c3, cur3, b4, c4, cur4, l1, l2, hne34, hB3, hB4, n3, n4, x1, x2, hall⟩ := hwj.mark7 HLT.out.2 HN.out hlt
          have hrow1 := hwj.bk.ro
          have hrow2 := hwj.bk.rw_
          rw [HLEN.out.1] at hrow1
          rw [HLEN.out.2.1] at hrow2
          obtain ⟨b5, e5, hb5, q1⟩ := row_cell hrow1 l1
          obtain ⟨b6, e6, hb6, q2⟩ := row_cell hrow2 l2
          obtain rfl : b1 = b5 := by injection e5 with e5; injection e5
          subst e6
          have m0 : wr.cell? ⟨hb, 0, none⟩ = some (.slice (some ⟨b1, 0, none⟩) ne capo) := hwj.bk.c.cell 0
          have m1 : wr.cell? ⟨hb, 1, none⟩ = some (.slice (some ⟨b6, 0, none⟩) ne capw) := hwj.bk.c.cell 1
          have hjl : (j : Int) < (n : Int) := by omega
          have HLT2 := hid hlt
          have HALL := hid (hall ⟨-3, i, 0, ⟨#[]⟩, ⟨#[]⟩, none, 0, 0, false⟩)
          obtain ⟨_, z0⟩ := hB3.some_cell (i := j * 7) (by omega)
          have zf0 : wr.frozen? ⟨b3, j * 7, none⟩ = false := hB3.froz _
          obtain ⟨_, z1⟩ := hB3.some_cell (i := j * 7 + 1) (by omega)
          have zf1 : wr.frozen? ⟨b3, j * 7 + 1, none⟩ = false := hB3.froz _
          obtain ⟨_, z2⟩ := hB3.some_cell (i := j * 7 + 2) (by omega)
          have zf2 : wr.frozen? ⟨b3, j * 7 + 2, none⟩ = false := hB3.froz _
          obtain ⟨_, z3⟩ := hB3.some_cell (i := j * 7 + 3) (by omega)
          have zf3 : wr.frozen? ⟨b3, j * 7 + 3, none⟩ = false := hB3.froz _
          obtain ⟨_, z4⟩ := hB3.some_cell (i := j * 7 + 4) (by omega)
          have zf4 : wr.frozen? ⟨b3, j * 7 + 4, none⟩ = false := hB3.froz _
          obtain ⟨_, z5⟩ := hB3.some_cell (i := j * 7 + 5) (by omega)
          have zf5 : wr.frozen? ⟨b3, j * 7 + 5, none⟩ = false := hB3.froz _
          obtain ⟨_, z6⟩ := hB3.some_cell (i := j * 7 + 6) (by omega)
          have zf6 : wr.frozen? ⟨b3, j * 7 + 6, none⟩ = false := hB3.froz _
          have x3 : ¬ b6 = b3 := fun q => x2 b6 (mem_ob.2 rfl) q.symm
          have HB4 := hid hB4
          have HM := hid (And.intro hwj.bk.c (And.intro n4 (And.intro hne34 (And.intro x1 (And.intro x3 hb6)))))
          have HQ2 := hid q2
          clear hlt hwj hrow1 hrow2 hall l1 l2 e5 hb5 hb6 hB3 hB4 m1 q2 n3 n4 x1 x2 x3 hne34
          go_upto_region 10 with fail
          obtain ⟨W9, hW9⟩ : ∃ W9, S7 wr b3 j ⟨-3, i, 0, ⟨#[]⟩, ⟨#[]⟩, none, 0, 0, false⟩ = W9 := ⟨_, rfl⟩
          have hall2 := HALL.out
          have ho9 := S7_only wr b3 j ⟨-3, i, 0, ⟨#[]⟩, ⟨#[]⟩, none, 0, 0, false⟩
          rw [hW9] at hall2 ho9
          unfold S7 at hall2
          dsimp only at hall2
          have HALL2 := hid hall2
          clear hall2
          have c9 := ho9.blk HM.out.1 (by simp; exact fun q => HM.out.2.2.2.1 q.symm)
          have m1 : W9.cell? ⟨hb, 1, none⟩ = some (.slice (some ⟨b6, 0, none⟩) ne capw) := c9.cell 1
          have q2 : W9.cell? ⟨b6, i, none⟩ = some (.slice (some ⟨b4, 0, none⟩) n c4) := (World.cell?_of_block (w := wr) (ho9.block b6 HM.out.2.2.2.2.2 (by simp; exact HM.out.2.2.2.2.1))).trans HQ2.out
          have hB4 := ho9.blk HB4.out (by simp; exact fun q => HM.out.2.2.1 q.symm)
          have n4 := HM.out.2.1
          unfold S7 at hW9
          dsimp only at hW9
          rw [hW9]
          obtain ⟨_, y0⟩ := hB4.some_cell (i := j * 7) (by omega)
          have yf0 : W9.frozen? ⟨b4, j * 7, none⟩ = false := hB4.froz _
          obtain ⟨_, y1⟩ := hB4.some_cell (i := j * 7 + 1) (by omega)
          have yf1 : W9.frozen? ⟨b4, j * 7 + 1, none⟩ = false := hB4.froz _
          obtain ⟨_, y2⟩ := hB4.some_cell (i := j * 7 + 2) (by omega)
          have yf2 : W9.frozen? ⟨b4, j * 7 + 2, none⟩ = false := hB4.froz _
          obtain ⟨_, y3⟩ := hB4.some_cell (i := j * 7 + 3) (by omega)
          have yf3 : W9.frozen? ⟨b4, j * 7 + 3, none⟩ = false := hB4.froz _
          obtain ⟨_, y4⟩ := hB4.some_cell (i := j * 7 + 4) (by omega)
          have yf4 : W9.frozen? ⟨b4, j * 7 + 4, none⟩ = false := hB4.froz _
          obtain ⟨_, y5⟩ := hB4.some_cell (i := j * 7 + 5) (by omega)
          have yf5 : W9.frozen? ⟨b4, j * 7 + 5, none⟩ = false := hB4.froz _
          obtain ⟨_, y6⟩ := hB4.some_cell (i := j * 7 + 6) (by omega)
          have yf6 : W9.frozen? ⟨b4, j * 7 + 6, none⟩ = false := hB4.froz _
          clear hW9 ho9 c9 hB4 n4 z0 zf0 z1 zf1 z2 zf2 z3 zf3 z4 zf4 z5 zf5 z6 zf6 m0 q1
          go_wp2_with fail
          go_roundw
          case rel => exact ⟨j + 1, by go_num, HLT2.out, HALL2.out⟩
          case measure => have := HLT2.out; simp [RowKit.intOf]; omega
        · have hjl : ¬ (j : Int) < (n : Int) := by omega
          clear hlt
          go_wp2_with fail
          go_roundw
          case rel => exact ⟨i + 1, by go_num, by have := HLT.out.2; omega, HLT.out.1, HWJ.out⟩
          case measure => have := HLT.out; simp [RowKit.intOf]; omega
    · have hil : ¬ (i : Int) < (ne : Int) := by omega
      have hie : i = ne := by omega
      clear hlt hwb HWS HW3 hi1 hi2 hie
      have HWS := HWR
      have cf : wr.cell? ⟨hb, 5, none⟩ = some (.int .i64 gw) := HWS.out.bk.c.cell 5
      have c0 : wr.cell? ⟨hb, 2, none⟩ = some (.slice adr nr capr) := HWS.out.bk.c.cell 2
      go_upto_region 12 with fail
      go_cut [8, 9] from 70 to 77 (fun x y wx => x = .int .i64 gw ∧ y = .int .i64 nr ∧ Only [] wr wx)
      case first =>
        go_region_law (fail)
        all_goals
          go_wp2
          go_meet
          case rel => exact ⟨rfl, rfl, by repeat (first | exact Only.refl _ _ | refine Only.drewN ?_ _ | refine Only.drew ?_)⟩
      case rest =>
      obtain ⟨rfl, rfl, ho2⟩ := hcut
      clear cf c0
      have HW3 := hid (HWS.out.only ho2)
      go_wp2_with fail
      go_loopw [10] (fun i wr => ∃ k : Nat, i = .int .i64 k ∧ gw ≤ k ∧ k ≤ nr ∧ WB W hb B (.slice ado ne capo) (.slice adw ne capw) (.slice adr nr capr) (.slice adq nr capq) lo lw lr lq fw gw ns ms wr) (fun i _ => nr - (RowKit.intOf i).toNat)
      case atStart => exact ⟨gw, rfl, Nat.le_refl _, hgr, HW3.out⟩
      case round =>
        obtain ⟨i, rfl, hi1, hi2, hwb⟩ := hrel
        have HWR := hid hwb
        have hz : (nr : Int) ≤ 100000000000 := by omega
        have hk0 : (0 : Int) ≤ (i : Int) := by omega
        by_cases hlt : i < nr
        · obtain ⟨n, hn⟩ := some_at (xs := ms) (i := i) (by rw [HLEN.out.2.2.2.2.2]; exact hlt)
          have HN := hid hn
          have hrow := hwb.bk.rr
          rw [HLEN.out.2.2.1] at hrow
          obtain ⟨es', g1, g2, g3, g4⟩ := hwb.rs
          obtain ⟨e, he, hen⟩ := map_get g3 hn
          have hlv : lr[i]? = some e.v := by rw [← g1]; exact map_at he
          obtain ⟨b1, rfl, hb1, q1⟩ := row_cell hrow hlv
          obtain ⟨⟨a1, c1, e1, s1⟩, -⟩ := g4.rd e (List.mem_of_getElem? he)
          rw [e1, hen] at q1
          rw [e1, hen] at hlv
          have HLV := hid hlv
          have m0 : wr.cell? ⟨hb, 2, none⟩ = some (.slice (some ⟨b1, 0, none⟩) nr capr) := hwb.bk.c.cell 2
          have hkl : (i : Int) < (nr : Int) := by omega
          have HLT := hid (And.intro hlt hi1)
          have hnb : (n : Int) ≤ 8589934592 := by have := HNB.out.2 n (List.mem_of_getElem? hn); omega
          clear hlt he hn hrow e1 s1 g1 g2 g3 g4 hlv hwb hen hb1
          go_wp2_with fail
          clear q1 m0
          go_loopw [92] (fun vi wr2 => ∃ j : Nat, vi = .int .i64 j ∧ j ≤ n ∧ WB W hb B (.slice ado ne capo) (.slice adw ne capw) (.slice (some ⟨b1, 0, none⟩) nr capr) (.slice adq nr capq) lo lw lr lq fw gw ns ms wr2) (fun vi _ => n - (RowKit.intOf vi).toNat)
          case atStart => exact ⟨0, rfl, by omega, HWR.out⟩
          case round =>
            obtain ⟨j, rfl, hj, hwj⟩ := hrel
            have HWJ := hid hwj
            have hj0 : (0 : Int) ≤ (j : Int) := by omega
            by_cases hlt : j < n
            · obtain ⟨b3, c3, cur3, b4, c4, cur4, l1, l2, hne34, hB3, hB4, n3, n4, x1, x2, hall⟩ := hwj.mark3 HLT.out.2 HN.out hlt
              have hrow1 := hwj.bk.rr
              have hrow2 := hwj.bk.rq
              rw [HLEN.out.2.2.1] at hrow1
              rw [HLEN.out.2.2.2.1] at hrow2
              obtain ⟨b5, e5, hb5, q1⟩ := row_cell hrow1 l1
              obtain ⟨b6, e6, hb6, q2⟩ := row_cell hrow2 l2
              obtain rfl : b1 = b5 := by injection e5 with e5; injection e5
              subst e6
              have m0 : wr.cell? ⟨hb, 2, none⟩ = some (.slice (some ⟨b1, 0, none⟩) nr capr) := hwj.bk.c.cell 2
              have m1 : wr.cell? ⟨hb, 3, none⟩ = some (.slice (some ⟨b6, 0, none⟩) nr capq) := hwj.bk.c.cell 3
              have hjl : (j : Int) < (n : Int) := by omega
              have HLT2 := hid hlt
              have HALL := hid (hall (-3, i, 0))
              obtain ⟨_, z0⟩ := hB3.some_cell (i := j * 3) (by omega)
              have zf0 : wr.frozen? ⟨b3, j * 3, none⟩ = false := hB3.froz _
              obtain ⟨_, z1⟩ := hB3.some_cell (i := j * 3 + 1) (by omega)
              have zf1 : wr.frozen? ⟨b3, j * 3 + 1, none⟩ = false := hB3.froz _
              obtain ⟨_, z2⟩ := hB3.some_cell (i := j * 3 + 2) (by omega)
              have zf2 : wr.frozen? ⟨b3, j * 3 + 2, none⟩ = false := hB3.froz _
              have x3 : ¬ b6 = b3 := fun q => x2 b6 (mem_ob.2 rfl) q.symm
              have HB4 := hid hB4
              have HM := hid (And.intro hwj.bk.c (And.intro n4 (And.intro hne34 (And.intro x1 (And.intro x3 hb6)))))
              have HQ2 := hid q2
              clear hlt hwj hrow1 hrow2 hall l1 l2 e5 hb5 hb6 hB3 hB4 m1 q2 n3 n4 x1 x2 x3 hne34
              go_upto_region 20 with fail
              obtain ⟨W9, hW9⟩ : ∃ W9, S3 wr b3 j (-3, i, 0) = W9 := ⟨_, rfl⟩
              have hall2 := HALL.out
              have ho9 := S3_only wr b3 j (-3, i, 0)
              rw [hW9] at hall2 ho9
              unfold S3 at hall2
              dsimp only at hall2
              have HALL2 := hid hall2
              clear hall2
              have c9 := ho9.blk HM.out.1 (by simp; exact fun q => HM.out.2.2.2.1 q.symm)
              have m1 : W9.cell? ⟨hb, 3, none⟩ = some (.slice (some ⟨b6, 0, none⟩) nr capq) := c9.cell 3
              have q2 : W9.cell? ⟨b6, i, none⟩ = some (.slice (some ⟨b4, 0, none⟩) n c4) := (World.cell?_of_block (w := wr) (ho9.block b6 HM.out.2.2.2.2.2 (by simp; exact HM.out.2.2.2.2.1))).trans HQ2.out
              have hB4 := ho9.blk HB4.out (by simp; exact fun q => HM.out.2.2.1 q.symm)
              have n4 := HM.out.2.1
              unfold S3 at hW9
              dsimp only at hW9
              rw [hW9]
              obtain ⟨_, y0⟩ := hB4.some_cell (i := j * 3) (by omega)
              have yf0 : W9.frozen? ⟨b4, j * 3, none⟩ = false := hB4.froz _
              obtain ⟨_, y1⟩ := hB4.some_cell (i := j * 3 + 1) (by omega)
              have yf1 : W9.frozen? ⟨b4, j * 3 + 1, none⟩ = false := hB4.froz _
              obtain ⟨_, y2⟩ := hB4.some_cell (i := j * 3 + 2) (by omega)
              have yf2 : W9.frozen? ⟨b4, j * 3 + 2, none⟩ = false := hB4.froz _
              clear hW9 ho9 c9 hB4 n4 z0 zf0 z1 zf1 z2 zf2 m0 q1
              go_wp2_with fail
              go_roundw
              case rel => exact ⟨j + 1, by go_num, HLT2.out, HALL2.out⟩
              case measure => have := HLT2.out; simp [RowKit.intOf]; omega
            · have hjl : ¬ (j : Int) < (n : Int) := by omega
              clear hlt
              go_wp2_with fail
              go_roundw
              case rel => exact ⟨i + 1, by go_num, by have := HLT.out.2; omega, HLT.out.1, HWJ.out⟩
              case measure => have := HLT.out; simp [RowKit.intOf]; omega
        · have hil : ¬ (i : Int) < (nr : Int) := by omega
          have hie : i = nr := by omega
          clear hlt hwb HWS HW3 hi1 hi2 hie
          obtain ⟨es0, e01, e02, e03, e04⟩ := HWR.out.es
          obtain ⟨rs0, r01, r02, r03, r04⟩ := HWR.out.rs
          have hel : es0.length = ne := by rw [← HLEN.out.1, ← e01, List.length_map]
          have hrl : rs0.length = nr := by rw [← HLEN.out.2.2.1, ← r01, List.length_map]
          have HR0 := hid (And.intro r01 (And.intro r02 (And.intro r03 hrl)))
          have HGS3 := hid (show GB7 W hb B (.slice adr nr capr) (.slice adq nr capq) lr lq fw gw rs0 gw rs0.length ne fw (.slice ado ne capo) (.slice adw ne capw) es0 wr from
            ⟨by rw [e01, e02]; exact HWR.out.bk, by rw [← hel]; exact e04, by rw [hel]; exact Nat.le_refl _, by rw [hel]; exact Nat.le_refl _, fun j e hj q1 q2 => HBN.out.1 j e.n (by rw [← e03]; exact map_at hj) q1, r04, HWR.out.fr.mono (by simp)⟩)
          clear e01 e02 e03 e04 r01 r02 r03 r04 hel hrl HWR
          go_wp2_with fail
          go_loopw [12] (fun i wr => ∃ k : Nat, i = .int .i64 k ∧ fw ≤ k ∧ k ≤ ne ∧ ∃ vo1 vw1 es1, GB7 W hb B (.slice adr nr capr) (.slice adq nr capq) lr lq fw gw rs0 gw rs0.length ne k vo1 vw1 es1 wr) (fun i _ => ne - (RowKit.intOf i).toNat)
          case atStart => exact ⟨fw, rfl, Nat.le_refl _, HFG.out.1, (.slice ado ne capo), (.slice adw ne capw), es0, HGS3.out⟩
          case round =>
            obtain ⟨i, rfl, hi1, hi2, vo1, vw1, es1, hgb⟩ := hrel
            have HGB := hid hgb
            obtain ⟨W2, hW2⟩ : ∃ W2, W2 = wr := ⟨_, rfl⟩
            subst hW2
            have hk0 : (0 : Int) ≤ (i : Int) := by omega
            by_cases hlt : i < ne
            · obtain ⟨⟨v0, u0, n, cs⟩, he⟩ := some_at (xs := es1) (i := i) (by have := hgb.l1; omega)
              obtain ⟨o1, o2, o3⟩ := hgb.ee.ow i _ he (Nat.le_refl _) hlt
              obtain ⟨ys, y1, y2, -⟩ := hgb.ee.sh _ (List.mem_of_getElem? he)
              have hn := hgb.bd i _ he (Nat.le_refl _) hlt
              dsimp only at o1 o2 o3 y1 y2 hn
              have hone : ∀ u ∈ cs, u.oneCell' = true := by rw [y2]; exact htc_one ys
              have hcs : cs.length = n * 7 := o1.1
              obtain ⟨av, cv, rfl, -, -⟩ := row_reads o1
              obtain ⟨au, cu, rfl, su, -⟩ := row_reads o2
              have HOW := hid (And.intro o1 (And.intro o2 o3))
              have HE := hid he
              have HSU := hid su
              have hbk := hgb.bk
              obtain ⟨lo1, hlo1⟩ : ∃ l, es1.map (·.v) = l := ⟨_, rfl⟩
              obtain ⟨lw1, hlw1⟩ : ∃ l, es1.map (·.u) = l := ⟨_, rfl⟩
              rw [hlo1, hlw1] at hbk
              obtain ⟨ado1, capo1, rfl, -, -⟩ := row_reads hbk.ro
              obtain ⟨adw1, capw1, rfl, -, -⟩ := row_reads hbk.rw_
              have HB := hid hbk
              have HL1 := hid (And.intro hlo1 hlw1)
              obtain ⟨bo, rfl, hbo, q1⟩ := row_cell hbk.ro (by rw [← hlo1]; exact map_at (f := fun x : En => x.v) he)
              obtain ⟨bw, rfl, hbw, q2⟩ := row_cell hbk.rw_ (by rw [← hlw1]; exact map_at (f := fun x : En => x.u) he)
              have hll1 : lo1.length ≤ 200000 := by
                have := hgb.l2
                have : lo1.length = es1.length := by rw [← hlo1, List.length_map]
                omega
              have hll2 : lw1.length ≤ 200000 := by
                have := hgb.l2
                have : lw1.length = es1.length := by rw [← hlw1, List.length_map]
                omega
              have hil1 : (i : Int) < (lo1.length : Int) := by
                have := hgb.l1
                have : lo1.length = es1.length := by rw [← hlo1, List.length_map]
                omega
              have hil2 : (i : Int) < (lw1.length : Int) := by
                have := hgb.l1
                have : lw1.length = es1.length := by rw [← hlw1, List.length_map]
                omega
              have m0 : W2.cell? ⟨hb, 0, none⟩ = some (.slice (some ⟨bo, 0, none⟩) lo1.length capo1) := hbk.c.cell 0
              have m1 : W2.cell? ⟨hb, 1, none⟩ = some (.slice (some ⟨bw, 0, none⟩) lw1.length capw1) := hbk.c.cell 1
              have HQ := hid (And.intro q1 (And.intro q2 (And.intro hbo hbw)))
              have hkl : (i : Int) < (ne : Int) := by omega
              have HLT := hid (And.intro hlt hi1)
              have HBW2 : Hid (B ≤ W2.heap.size) := hid (by have := hbk.c.lt; have := hbk.bb; omega)
              have hBW2 := HBW2.out
              have hcn1 : 0 + n ≤ maxLen := by unfold maxLen; omega
              have hcn2 : (0 + n) * 88 ≤ 140737488355328 := by omega
              clear hlt he hgb hbk hlo1 hlw1 o1 o2 o3 y1 y2 su hbo hbw
              go_upto_region 25 with fail
              go_cut [13, 14] from 124 to 138 (fun lv mv wx => lv = .slice av n cv ∧ ∃ am cm, mv = .slice am n cm ∧ wx.ownsRow B 48 7 (.slice am n cm) n cs ∧ Only [] W2 wx ∧ ∀ b, (Value.slice am n cm).ownBlock = some b → W2.heap.size ≤ b)
              case first =>
                go_region_law
                  (refine step_append_sl _ rfl _ _ 32 rfl B 48 i48 _ 7 88 Tryd.underlying32 hi48 z480 z481 z482 rfl (by decide) (.slice none 0 0) 0 [] (by rfl) (World.ownsRow_nil _ _ _ _) au n cu cs (by rfl) hcs (HSU.out.only ((Only.refl [] W2).drew)) hone hcn1 hcn2 hBW2 ?_; intro v7 w7 hown hgrew; rw [Nat.zero_add, List.nil_append] at hown; obtain ⟨ad7, cap7, rfl, -, -⟩ := row_reads hown; have HF7 := hid hgrew.fresh; have HR7 := hid hown; clear hown hgrew; have c07 : w7.cell? ⟨hb, 0, none⟩ = some (.slice (some ⟨bo, 0, none⟩) lo1.length capo1) := (HB.out.still (((Only.refl [] W2).drew).trans HF7.out.1)).c.cell 0; have q17 : w7.cell? ⟨bo, i, none⟩ = some (.slice av n cv) := (World.cell?_of_block (w := W2) ((((Only.refl [] W2).drew).trans HF7.out.1).block bo HQ.out.2.2.1 (by simp))).trans HQ.out.1)
                all_goals
                  go_wp2
                  go_meet
                  case rel => exact ⟨rfl, ad7, cap7, rfl, HR7.out, ((Only.refl [] W2).drew).trans HF7.out.1, fun b hb' => Nat.le_of_eq (HF7.out.2 b hb').symm⟩
              case rest =>
              obtain ⟨rfl, am, cm, rfl, hm, ho, hmb⟩ := hcut
              have HI := hid (GI.start (e := ⟨.slice av n cv, .slice au n cu, n, cs⟩) HOW.out.1 HOW.out.2.1 ho hm hmb)
              clear m0 m1 q1 q2 hm ho hmb hcn1 hcn2 hcs hone
              go_wp2_with fail
              go_loopw [139, 13, 14] (fun vi lv mv wx => ∃ j : Nat, vi = .int .i64 j ∧ j ≤ 20 ∧ GI W2 wx B 48 7 ⟨.slice av n cv, .slice au n cu, n, cs⟩ (n + j) (cs ++ (List.replicate j (mkT i)).flatMap htc) (n + j) (cs ++ (List.replicate j (mkT i)).flatMap htc) lv mv) (fun vi _ _ _ => 20 - (RowKit.intOf vi).toNat)
              case atStart => exact ⟨0, rfl, by omega, HI.out⟩
              case round =>
                obtain ⟨j, rfl, hj, hgi⟩ := hrel
                have HGI := hid hgi
                obtain ⟨al, cl, rfl, -, -⟩ := row_reads hgi.o1
                obtain ⟨am2, cm2, rfl, -, -⟩ := row_reads hgi.o2
                have hj0 : (0 : Int) ≤ (j : Int) := by omega
                by_cases hlt : j < 20
                · have hjl : (j : Int) < 20 := by omega
                  have HLT2 := hid hlt
                  have HA := hid (hgi.still (alloc_still wr (.cells #[.int .i64 (-4), .int .i64 i, .int .i64 0, .string ⟨#[]⟩, .string ⟨#[]⟩, .slice none 0 0, .bool false] 48)))
                  have hp1 : n + j + 1 ≤ maxLen := by unfold maxLen; omega
                  have hp2 : (n + j + 1) * 88 ≤ 140737488355328 := by omega
                  have hBA : B ≤ (wr.alloc (.cells #[.int .i64 (-4), .int .i64 i, .int .i64 0, .string ⟨#[]⟩, .string ⟨#[]⟩, .slice none 0 0, .bool false] 48)).heap.size := Nat.le_trans HBW2.out HA.out.on.size
                  clear hgi hlt
                  go_wp2_with (first
                  | (refine wpList_append_sl _ rfl _ _ 32 rfl B 48 i48 _ 7 88 Tryd.underlying32 hi48 z480 z481 z482 rfl (by decide) (.slice al (n + j) cl) (n + j) (cs ++ (List.replicate j (mkT i)).flatMap htc) rfl HA.out.o1 (some ⟨wr.heap.size, 0, none⟩) 1 1 [.int .i64 (-4), .int .i64 i, .int .i64 0, .string ⟨#[]⟩, .string ⟨#[]⟩, .slice none 0 0, .bool false] rfl rfl (sl_newest wr [.int .i64 (-4), .int .i64 i, .int .i64 0, .string ⟨#[]⟩, .string ⟨#[]⟩, .slice none 0 0, .bool false] 48 rfl) (litT_one i) hp1 hp2 hBA ?_; intro v7 w7 hown hgrew; have HL7 := hid (GI.left (e := ⟨.slice av n cv, .slice au n cu, n, cs⟩) HOW.out.1 HOW.out.2.1 HOW.out.2.2 HA.out hown hgrew); obtain ⟨al7, cl7, rfl, -, -⟩ := row_reads hown; have HA7 := hid (HL7.out.still (alloc_still w7 (.cells #[.int .i64 (-4), .int .i64 i, .int .i64 0, .string ⟨#[]⟩, .string ⟨#[]⟩, .slice none 0 0, .bool false] 48))); clear hown hgrew; have hBA7 : B ≤ (w7.alloc (.cells #[.int .i64 (-4), .int .i64 i, .int .i64 0, .string ⟨#[]⟩, .string ⟨#[]⟩, .slice none 0 0, .bool false] 48)).heap.size := Nat.le_trans HBW2.out HA7.out.on.size)
                  | (refine wpList_append_sl _ rfl _ _ 32 rfl B 48 i48 _ 7 88 Tryd.underlying32 hi48 z480 z481 z482 rfl (by decide) (.slice am2 (n + j) cm2) (n + j) (cs ++ (List.replicate j (mkT i)).flatMap htc) rfl HA7.out.o2 (some ⟨w7.heap.size, 0, none⟩) 1 1 [.int .i64 (-4), .int .i64 i, .int .i64 0, .string ⟨#[]⟩, .string ⟨#[]⟩, .slice none 0 0, .bool false] rfl rfl (sl_newest w7 [.int .i64 (-4), .int .i64 i, .int .i64 0, .string ⟨#[]⟩, .string ⟨#[]⟩, .slice none 0 0, .bool false] 48 rfl) (litT_one i) hp1 hp2 hBA7 ?_; intro v8 w8 hown hgrew; have HL8 := hid (GI.right HOW.out.1 HOW.out.2.1 HA7.out hown hgrew); clear hown hgrew))
                  go_roundw
                  case rel => exact ⟨j + 1, by go_num, HLT2.out, by rw [rep_T, ← List.append_assoc]; exact HL8.out⟩
                  case measure => have := HLT2.out; simp [RowKit.intOf]; omega
                · have hjl : ¬ (j : Int) < 20 := by omega
                  obtain rfl : j = 20 := by omega
                  have hk := HB.out.keep hgi.on (fun b hb' => by
                    have hty := Ty.row HOW.out.1 (mem_ob.1 hb')
                    exact ⟨hty.ne (by decide), hty.ne (by decide), hty.ne (by decide)⟩)
                  have HKA := hid (hk.still (alloc_still wr (.cells #[.slice al (n + 20) cl] 32)))
                  have HK := hid hk
                  have c0 : wr.cell? ⟨hb, 0, none⟩ = some (.slice (some ⟨bo, 0, none⟩) lo1.length capo1) := hk.c.cell 0
                  have hro := HKA.out.ro
                  have ha1 : lo1.length + 1 ≤ maxLen := by unfold maxLen; omega
                  have ha2 : (lo1.length + 1) * 24 ≤ 140737488355328 := by omega
                  have hb1 : lw1.length + 1 ≤ maxLen := by unfold maxLen; omega
                  have hb2 : (lw1.length + 1) * 24 ≤ 140737488355328 := by omega
                  have hBx : B ≤ wr.heap.size := Nat.le_trans HBW2.out hgi.on.size
                  have hge : B ≤ (wr.alloc (.cells #[.slice al (n + 20) cl] 32)).heap.size := by simp; omega
                  have HBX := hid hBx
                  clear hlt hgi hk
                  go_upto_region 32 with (refine wpList_append_sl _ rfl _ _ 24 rfl B 32 i32 _ 1 24 Tryd.underlying24 hi32 z320 z321 z322 rfl (by decide) (.slice (some ⟨bo, 0, none⟩) lo1.length capo1) lo1.length lo1 rfl hro (some ⟨wr.heap.size, 0, none⟩) 1 1 [.slice al (n + 20) cl] rfl rfl (sl_newest wr [.slice al (n + 20) cl] 32 rfl) (oneSl _ _ _ _ rfl) ha1 ha2 hge ?_; intro v7 w7 hown hgrew; obtain ⟨ad7, cap7, rfl, -, -⟩ := row_reads hown; have hg7 := HKA.out.blk0 hgrew; have d0 := hg7.cell 0; have d1 := fun i => hg7.froz i; simp only [List.getElem?_cons_zero] at d0; have HG7 := hid (HKA.out.grow0 hown hgrew); clear hown hgrew hg7)
                  obtain ⟨W1, hW1⟩ : ∃ W1, w7.setCell ⟨hb, 0, none⟩ (.slice ad7 (lo1.length + 1) cap7) = W1 := ⟨_, rfl⟩
                  rw [hW1] at HG7
                  rw [hW1]
                  clear hW1 d0 d1 c0 hro hge ha1 ha2
                  have HO1 := hid (Only.behind (alloc_still wr (.cells #[.slice al (n + 20) cl] 32)) HG7.out.2)
                  have HKB := hid (HG7.out.1.still (alloc_still W1 (.cells #[.slice am2 (n + 20) cm2] 32)))
                  have c1 : W1.cell? ⟨hb, 1, none⟩ = some (.slice (some ⟨bw, 0, none⟩) lw1.length capw1) := HG7.out.1.c.cell 1
                  have hrw := HKB.out.rw_
                  have hB1 : B ≤ W1.heap.size := Nat.le_trans HBX.out HO1.out.size
                  have HB1 := hid hB1
                  have hge : B ≤ (W1.alloc (.cells #[.slice am2 (n + 20) cm2] 32)).heap.size := by simp; omega
                  go_wp2_with (refine wpList_append_sl _ rfl _ _ 24 rfl B 32 i32 _ 1 24 Tryd.underlying24 hi32 z320 z321 z322 rfl (by decide) (.slice (some ⟨bw, 0, none⟩) lw1.length capw1) lw1.length lw1 rfl hrw (some ⟨W1.heap.size, 0, none⟩) 1 1 [.slice am2 (n + 20) cm2] rfl rfl (sl_newest W1 [.slice am2 (n + 20) cm2] 32 rfl) (oneSl _ _ _ _ rfl) hb1 hb2 hge ?_; intro v8 w8 hown hgrew; obtain ⟨ad8, cap8, rfl, -, -⟩ := row_reads hown; have hg8 := HKB.out.blk1 hgrew; have d0 := hg8.cell 1; have d1 := fun i => hg8.froz i; simp only [List.getElem?_cons_zero, List.getElem?_cons_succ] at d0; have HG8 := hid (HKB.out.grow1 hown hgrew); clear hown hgrew hg8)
                  go_roundw
                  case rel =>
                    have hbk2 : Bk (w8.setCell ⟨hb, 1, none⟩ (.slice ad8 (lw1.length + 1) cap8)) hb B (.slice ad7 (lo1.length + 1) cap7) (.slice ad8 (lw1.length + 1) cap8) (.slice adr nr capr) (.slice adq nr capq) (es1.map (·.v) ++ [.slice al (n + 20) cl]) (es1.map (·.u) ++ [.slice am2 (n + 20) cm2]) lr lq fw gw := by
                      rw [HL1.out.1, HL1.out.2]
                      exact HG8.out.1
                    obtain ⟨es', hnext⟩ := HGB.out.next HE.out HLT.out.1 HGI.out hbk2 (by
                      have f1 : FrT [27, 32] B wr W1 := FrT.of HO1.out HBX.out (fun b hm => by
                        simp only [List.mem_cons] at hm
                        rcases hm with rfl | hm
                        · exact ⟨HK.out.bb, fun _ => ⟨27, by simp, HK.out.ty.1⟩⟩
                        · exact ⟨(row_ge HK.out.ro b (mem_ob.1 hm)).1, fun _ => ⟨32, by simp, HK.out.ty.2.1 b hm⟩⟩)
                      refine (f1.trans (FrT.only (alloc_still W1 (.cells #[.slice am2 (n + 20) cm2] 32)) HB1.out)).trans (FrT.of HG8.out.2 (Nat.le_trans HB1.out (alloc_still W1 (.cells #[.slice am2 (n + 20) cm2] 32)).size) (fun b hm => ?_))
                      simp only [List.mem_cons] at hm
                      rcases hm with rfl | hm
                      · exact ⟨HK.out.bb, fun _ => ⟨27, by simp, HKB.out.ty.1⟩⟩
                      · exact ⟨(row_ge HKB.out.rw_ b (mem_ob.1 hm)).1, fun _ => ⟨32, by simp, HKB.out.ty.2.2.1 b hm⟩⟩)
                    exact ⟨i + 1, by go_num, by have := HLT.out.2; omega, HLT.out.1, _, _, es', hnext⟩
                  case measure => have := HLT.out; simp [RowKit.intOf]; omega
            · have hkl : ¬ (i : Int) < (ne : Int) := by omega
              obtain rfl : i = ne := by omega
              clear hlt hgb hi1 hi2
              obtain ⟨es9, hes9⟩ : ∃ l, l = es1 := ⟨_, rfl⟩
              subst hes9
              obtain ⟨lo9, hlo9⟩ : ∃ l, es9.map (·.v) = l := ⟨_, rfl⟩
              obtain ⟨lw9, hlw9⟩ : ∃ l, es9.map (·.u) = l := ⟨_, rfl⟩
              obtain ⟨vo9, hvo9⟩ : ∃ v, v = vo1 := ⟨_, rfl⟩
              obtain ⟨vw9, hvw9⟩ : ∃ v, v = vw1 := ⟨_, rfl⟩
              subst hvo9
              subst hvw9
              have HL9 := hid (And.intro hlo9 hlw9)
              have HGS4 := hid (show GB3 W hb B vo9 vw9 lo9 lw9 fw gw es9 es9.length es9.length nr gw (.slice adr nr capr) (.slice adq nr capq) rs0 W2 from by
                have hr := HR0.out
                have h := HGB.out
                have hbk := h.bk
                rw [hlo9, hlw9] at hbk
                refine ⟨by rw [hr.1, hr.2.1]; exact hbk, by rw [← hr.2.2.2]; exact h.rr, by rw [hr.2.2.2]; exact Nat.le_refl _, by rw [hr.2.2.2]; exact Nat.le_refl _, fun j e hj q1 q2 => HBN.out.2 j e.n (by rw [← hr.2.2.1]; exact map_at hj) q1, h.ee.none (Nat.le_refl _), h.fr⟩)
              have HL39 := hid HGB.out.l2
              clear hlo9 hlw9 HGB HGS3
              go_wp2_with fail
              go_loopw [15] (fun i wr => ∃ k : Nat, i = .int .i64 k ∧ gw ≤ k ∧ k ≤ nr ∧ ∃ vo1 vw1 es1, GB3 W hb B vo9 vw9 lo9 lw9 fw gw es9 es9.length es9.length nr k vo1 vw1 es1 wr) (fun i _ => nr - (RowKit.intOf i).toNat)
              case atStart => exact ⟨gw, rfl, Nat.le_refl _, HFG.out.2, (.slice adr nr capr), (.slice adq nr capq), rs0, HGS4.out⟩
              case round =>
                obtain ⟨i, rfl, hi1, hi2, vo1, vw1, es1, hgb⟩ := hrel
                have HGB := hid hgb
                obtain ⟨W2, hW2⟩ : ∃ W2, W2 = wr := ⟨_, rfl⟩
                subst hW2
                have hk0 : (0 : Int) ≤ (i : Int) := by omega
                by_cases hlt : i < nr
                · obtain ⟨⟨v0, u0, n, cs⟩, he⟩ := some_at (xs := es1) (i := i) (by have := hgb.l1; omega)
                  obtain ⟨o1, o2, o3⟩ := hgb.rr.ow i _ he (Nat.le_refl _) hlt
                  obtain ⟨ys, y1, y2, -⟩ := hgb.rr.sh _ (List.mem_of_getElem? he)
                  have hn := hgb.bd i _ he (Nat.le_refl _) hlt
                  dsimp only at o1 o2 o3 y1 y2 hn
                  have hone : ∀ u ∈ cs, u.oneCell' = true := by rw [y2]; exact cic_one ys
                  have hcs : cs.length = n * 3 := o1.1
                  obtain ⟨av, cv, rfl, -, -⟩ := row_reads o1
                  obtain ⟨au, cu, rfl, su, -⟩ := row_reads o2
                  have HOW := hid (And.intro o1 (And.intro o2 o3))
                  have HE := hid he
                  have HSU := hid su
                  have hbk := hgb.bk
                  obtain ⟨lo1, hlo1⟩ : ∃ l, es1.map (·.v) = l := ⟨_, rfl⟩
                  obtain ⟨lw1, hlw1⟩ : ∃ l, es1.map (·.u) = l := ⟨_, rfl⟩
                  rw [hlo1, hlw1] at hbk
                  obtain ⟨ado1, capo1, rfl, -, -⟩ := row_reads hbk.rr
                  obtain ⟨adw1, capw1, rfl, -, -⟩ := row_reads hbk.rq
                  have HB := hid hbk
                  have HL1 := hid (And.intro hlo1 hlw1)
                  obtain ⟨bo, rfl, hbo, q1⟩ := row_cell hbk.rr (by rw [← hlo1]; exact map_at (f := fun x : En => x.v) he)
                  obtain ⟨bw, rfl, hbw, q2⟩ := row_cell hbk.rq (by rw [← hlw1]; exact map_at (f := fun x : En => x.u) he)
                  have hll1 : lo1.length ≤ 200000000000 := by
                    have := hgb.l2
                    have : lo1.length = es1.length := by rw [← hlo1, List.length_map]
                    omega
                  have hll2 : lw1.length ≤ 200000000000 := by
                    have := hgb.l2
                    have : lw1.length = es1.length := by rw [← hlw1, List.length_map]
                    omega
                  have hil1 : (i : Int) < (lo1.length : Int) := by
                    have := hgb.l1
                    have : lo1.length = es1.length := by rw [← hlo1, List.length_map]
                    omega
                  have hil2 : (i : Int) < (lw1.length : Int) := by
                    have := hgb.l1
                    have : lw1.length = es1.length := by rw [← hlw1, List.length_map]
                    omega
                  have m0 : W2.cell? ⟨hb, 2, none⟩ = some (.slice (some ⟨bo, 0, none⟩) lo1.length capo1) := hbk.c.cell 2
                  have m1 : W2.cell? ⟨hb, 3, none⟩ = some (.slice (some ⟨bw, 0, none⟩) lw1.length capw1) := hbk.c.cell 3
                  have HQ := hid (And.intro q1 (And.intro q2 (And.intro hbo hbw)))
                  have hkl : (i : Int) < (nr : Int) := by omega
                  have HLT := hid (And.intro hlt hi1)
                  have HBW2 : Hid (B ≤ W2.heap.size) := hid (by have := hbk.c.lt; have := hbk.bb; omega)
                  have hBW2 := HBW2.out
                  have hcn1 : 0 + n ≤ maxLen := by unfold maxLen; omega
                  have hcn2 : (0 + n) * 24 ≤ 140737488355328 := by omega
                  clear hlt he hgb hbk hlo1 hlw1 o1 o2 o3 y1 y2 su hbo hbw
                  go_upto_region 36 with fail
                  go_cut [16, 17] from 178 to 192 (fun lv mv wx => lv = .slice av n cv ∧ ∃ am cm, mv = .slice am n cm ∧ wx.ownsRow B 50 3 (.slice am n cm) n cs ∧ Only [] W2 wx ∧ ∀ b, (Value.slice am n cm).ownBlock = some b → W2.heap.size ≤ b)
                  case first =>
                    go_region_law
                      (refine step_append_sl _ rfl _ _ 44 rfl B 50 i50 _ 3 24 Tryd.underlying44 hi50 z500 z501 z502 rfl (by decide) (.slice none 0 0) 0 [] (by rfl) (World.ownsRow_nil _ _ _ _) au n cu cs (by rfl) hcs (HSU.out.only ((Only.refl [] W2).drew)) hone hcn1 hcn2 hBW2 ?_; intro v7 w7 hown hgrew; rw [Nat.zero_add, List.nil_append] at hown; obtain ⟨ad7, cap7, rfl, -, -⟩ := row_reads hown; have HF7 := hid hgrew.fresh; have HR7 := hid hown; clear hown hgrew; have c07 : w7.cell? ⟨hb, 2, none⟩ = some (.slice (some ⟨bo, 0, none⟩) lo1.length capo1) := (HB.out.still (((Only.refl [] W2).drew).trans HF7.out.1)).c.cell 2; have q17 : w7.cell? ⟨bo, i, none⟩ = some (.slice av n cv) := (World.cell?_of_block (w := W2) ((((Only.refl [] W2).drew).trans HF7.out.1).block bo HQ.out.2.2.1 (by simp))).trans HQ.out.1)
                    all_goals
                      go_wp2
                      go_meet
                      case rel => exact ⟨rfl, ad7, cap7, rfl, HR7.out, ((Only.refl [] W2).drew).trans HF7.out.1, fun b hb' => Nat.le_of_eq (HF7.out.2 b hb').symm⟩
                  case rest =>
                  obtain ⟨rfl, am, cm, rfl, hm, ho, hmb⟩ := hcut
                  have HI := hid (GI.start (e := ⟨.slice av n cv, .slice au n cu, n, cs⟩) HOW.out.1 HOW.out.2.1 ho hm hmb)
                  clear m0 m1 q1 q2 hm ho hmb hcn1 hcn2 hcs hone
                  go_wp2_with fail
                  go_loopw [193, 16, 17] (fun vi lv mv wx => ∃ j : Nat, vi = .int .i64 j ∧ j ≤ 20 ∧ GI W2 wx B 50 3 ⟨.slice av n cv, .slice au n cu, n, cs⟩ (n + j) (cs ++ (List.replicate j (mkC i)).flatMap cic) (n + j) (cs ++ (List.replicate j (mkC i)).flatMap cic) lv mv) (fun vi _ _ _ => 20 - (RowKit.intOf vi).toNat)
                  case atStart => exact ⟨0, rfl, by omega, HI.out⟩
                  case round =>
                    obtain ⟨j, rfl, hj, hgi⟩ := hrel
                    have HGI := hid hgi
                    obtain ⟨al, cl, rfl, -, -⟩ := row_reads hgi.o1
                    obtain ⟨am2, cm2, rfl, -, -⟩ := row_reads hgi.o2
                    have hj0 : (0 : Int) ≤ (j : Int) := by omega
                    by_cases hlt : j < 20
                    · have hjl : (j : Int) < 20 := by omega
                      have HLT2 := hid hlt
                      have HA := hid (hgi.still (alloc_still wr (.cells #[.int .i64 (-4), .int .i64 i, .int .i64 0] 50)))
                      have hp1 : n + j + 1 ≤ maxLen := by unfold maxLen; omega
                      have hp2 : (n + j + 1) * 24 ≤ 140737488355328 := by omega
                      have hBA : B ≤ (wr.alloc (.cells #[.int .i64 (-4), .int .i64 i, .int .i64 0] 50)).heap.size := Nat.le_trans HBW2.out HA.out.on.size
                      clear hgi hlt
                      go_wp2_with (first
                      | (refine wpList_append_sl _ rfl _ _ 44 rfl B 50 i50 _ 3 24 Tryd.underlying44 hi50 z500 z501 z502 rfl (by decide) (.slice al (n + j) cl) (n + j) (cs ++ (List.replicate j (mkC i)).flatMap cic) rfl HA.out.o1 (some ⟨wr.heap.size, 0, none⟩) 1 1 [.int .i64 (-4), .int .i64 i, .int .i64 0] rfl rfl (sl_newest wr [.int .i64 (-4), .int .i64 i, .int .i64 0] 50 rfl) (litC_one i) hp1 hp2 hBA ?_; intro v7 w7 hown hgrew; have HL7 := hid (GI.left (e := ⟨.slice av n cv, .slice au n cu, n, cs⟩) HOW.out.1 HOW.out.2.1 HOW.out.2.2 HA.out hown hgrew); obtain ⟨al7, cl7, rfl, -, -⟩ := row_reads hown; have HA7 := hid (HL7.out.still (alloc_still w7 (.cells #[.int .i64 (-4), .int .i64 i, .int .i64 0] 50))); clear hown hgrew; have hBA7 : B ≤ (w7.alloc (.cells #[.int .i64 (-4), .int .i64 i, .int .i64 0] 50)).heap.size := Nat.le_trans HBW2.out HA7.out.on.size)
                      | (refine wpList_append_sl _ rfl _ _ 44 rfl B 50 i50 _ 3 24 Tryd.underlying44 hi50 z500 z501 z502 rfl (by decide) (.slice am2 (n + j) cm2) (n + j) (cs ++ (List.replicate j (mkC i)).flatMap cic) rfl HA7.out.o2 (some ⟨w7.heap.size, 0, none⟩) 1 1 [.int .i64 (-4), .int .i64 i, .int .i64 0] rfl rfl (sl_newest w7 [.int .i64 (-4), .int .i64 i, .int .i64 0] 50 rfl) (litC_one i) hp1 hp2 hBA7 ?_; intro v8 w8 hown hgrew; have HL8 := hid (GI.right HOW.out.1 HOW.out.2.1 HA7.out hown hgrew); clear hown hgrew))
                      go_roundw
                      case rel => exact ⟨j + 1, by go_num, HLT2.out, by rw [rep_C, ← List.append_assoc]; exact HL8.out⟩
                      case measure => have := HLT2.out; simp [RowKit.intOf]; omega
                    · have hjl : ¬ (j : Int) < 20 := by omega
                      obtain rfl : j = 20 := by omega
                      have hk := HB.out.keep hgi.on (fun b hb' => by
                        have hty := Ty.row HOW.out.1 (mem_ob.1 hb')
                        exact ⟨hty.ne (by decide), hty.ne (by decide), hty.ne (by decide)⟩)
                      have HKA := hid (hk.still (alloc_still wr (.cells #[.slice al (n + 20) cl] 44)))
                      have HK := hid hk
                      have c0 : wr.cell? ⟨hb, 2, none⟩ = some (.slice (some ⟨bo, 0, none⟩) lo1.length capo1) := hk.c.cell 2
                      have hro := HKA.out.rr
                      have ha1 : lo1.length + 1 ≤ maxLen := by unfold maxLen; omega
                      have ha2 : (lo1.length + 1) * 24 ≤ 140737488355328 := by omega
                      have hb1 : lw1.length + 1 ≤ maxLen := by unfold maxLen; omega
                      have hb2 : (lw1.length + 1) * 24 ≤ 140737488355328 := by omega
                      have hBx : B ≤ wr.heap.size := Nat.le_trans HBW2.out hgi.on.size
                      have hge : B ≤ (wr.alloc (.cells #[.slice al (n + 20) cl] 44)).heap.size := by simp; omega
                      have HBX := hid hBx
                      clear hlt hgi hk
                      go_upto_region 43 with (refine wpList_append_sl _ rfl _ _ 25 rfl B 44 i44 _ 1 24 Tryd.underlying25 hi44 z440 z441 z442 rfl (by decide) (.slice (some ⟨bo, 0, none⟩) lo1.length capo1) lo1.length lo1 rfl hro (some ⟨wr.heap.size, 0, none⟩) 1 1 [.slice al (n + 20) cl] rfl rfl (sl_newest wr [.slice al (n + 20) cl] 44 rfl) (oneSl _ _ _ _ rfl) ha1 ha2 hge ?_; intro v7 w7 hown hgrew; obtain ⟨ad7, cap7, rfl, -, -⟩ := row_reads hown; have hg7 := HKA.out.blk2 hgrew; have d0 := hg7.cell 2; have d1 := fun i => hg7.froz i; simp only [List.getElem?_cons_zero, List.getElem?_cons_succ] at d0; have HG7 := hid (HKA.out.grow2 hown hgrew); clear hown hgrew hg7)
                      obtain ⟨W1, hW1⟩ : ∃ W1, w7.setCell ⟨hb, 2, none⟩ (.slice ad7 (lo1.length + 1) cap7) = W1 := ⟨_, rfl⟩
                      rw [hW1] at HG7
                      rw [hW1]
                      clear hW1 d0 d1 c0 hro hge ha1 ha2
                      have HO1 := hid (Only.behind (alloc_still wr (.cells #[.slice al (n + 20) cl] 44)) HG7.out.2)
                      have HKB := hid (HG7.out.1.still (alloc_still W1 (.cells #[.slice am2 (n + 20) cm2] 44)))
                      have c1 : W1.cell? ⟨hb, 3, none⟩ = some (.slice (some ⟨bw, 0, none⟩) lw1.length capw1) := HG7.out.1.c.cell 3
                      have hrw := HKB.out.rq
                      have hB1 : B ≤ W1.heap.size := Nat.le_trans HBX.out HO1.out.size
                      have HB1 := hid hB1
                      have hge : B ≤ (W1.alloc (.cells #[.slice am2 (n + 20) cm2] 44)).heap.size := by simp; omega
                      go_wp2_with (refine wpList_append_sl _ rfl _ _ 25 rfl B 44 i44 _ 1 24 Tryd.underlying25 hi44 z440 z441 z442 rfl (by decide) (.slice (some ⟨bw, 0, none⟩) lw1.length capw1) lw1.length lw1 rfl hrw (some ⟨W1.heap.size, 0, none⟩) 1 1 [.slice am2 (n + 20) cm2] rfl rfl (sl_newest W1 [.slice am2 (n + 20) cm2] 44 rfl) (oneSl _ _ _ _ rfl) hb1 hb2 hge ?_; intro v8 w8 hown hgrew; obtain ⟨ad8, cap8, rfl, -, -⟩ := row_reads hown; have hg8 := HKB.out.blk3 hgrew; have d0 := hg8.cell 3; have d1 := fun i => hg8.froz i; simp only [List.getElem?_cons_zero, List.getElem?_cons_succ] at d0; have HG8 := hid (HKB.out.grow3 hown hgrew); clear hown hgrew hg8)
                      go_roundw
                      case rel =>
                        have hbk2 : Bk (w8.setCell ⟨hb, 3, none⟩ (.slice ad8 (lw1.length + 1) cap8)) hb B vo9 vw9 (.slice ad7 (lo1.length + 1) cap7) (.slice ad8 (lw1.length + 1) cap8) lo9 lw9 (es1.map (·.v) ++ [.slice al (n + 20) cl]) (es1.map (·.u) ++ [.slice am2 (n + 20) cm2]) fw gw := by
                          rw [HL1.out.1, HL1.out.2]
                          exact HG8.out.1
                        obtain ⟨es', hnext⟩ := HGB.out.next HE.out HLT.out.1 HGI.out hbk2 (by
                          have f1 : FrT [27, 44] B wr W1 := FrT.of HO1.out HBX.out (fun b hm => by
                            simp only [List.mem_cons] at hm
                            rcases hm with rfl | hm
                            · exact ⟨HK.out.bb, fun _ => ⟨27, by simp, HK.out.ty.1⟩⟩
                            · exact ⟨(row_ge HK.out.rr b (mem_ob.1 hm)).1, fun _ => ⟨44, by simp, HK.out.ty.2.2.2.1 b hm⟩⟩)
                          refine (f1.trans (FrT.only (alloc_still W1 (.cells #[.slice am2 (n + 20) cm2] 44)) HB1.out)).trans (FrT.of HG8.out.2 (Nat.le_trans HB1.out (alloc_still W1 (.cells #[.slice am2 (n + 20) cm2] 44)).size) (fun b hm => ?_))
                          simp only [List.mem_cons] at hm
                          rcases hm with rfl | hm
                          · exact ⟨HK.out.bb, fun _ => ⟨27, by simp, HKB.out.ty.1⟩⟩
                          · exact ⟨(row_ge HKB.out.rq b (mem_ob.1 hm)).1, fun _ => ⟨44, by simp, HKB.out.ty.2.2.2.2 b hm⟩⟩)
                        exact ⟨i + 1, by go_num, by have := HLT.out.2; omega, HLT.out.1, _, _, es', hnext⟩
                      case measure => have := HLT.out; simp [RowKit.intOf]; omega
                · have hkl : ¬ (i : Int) < (nr : Int) := by omega
                  obtain rfl : i = nr := by omega
                  clear hlt hgb hi1 hi2
                  obtain ⟨rs9, hrs9⟩ : ∃ l, l = es1 := ⟨_, rfl⟩
                  subst hrs9
                  have hbk := HGB.out.bk
                  obtain ⟨lr9, hlr9⟩ : ∃ l, rs9.map (·.v) = l := ⟨_, rfl⟩
                  obtain ⟨lq9, hlq9⟩ : ∃ l, rs9.map (·.u) = l := ⟨_, rfl⟩
                  rw [hlr9, hlq9] at hbk
                  obtain ⟨ado1, capo1, rfl, -, -⟩ := row_reads hbk.ro
                  obtain ⟨adr1, capr1, rfl, -, -⟩ := row_reads hbk.rr
                  have HLR9 := hid (And.intro hlr9 hlq9)
                  have c0 : W2.cell? ⟨hb, 0, none⟩ = some (.slice ado1 lo9.length capo1) := hbk.c.cell 0
                  have c2 : W2.cell? ⟨hb, 2, none⟩ = some (.slice adr1 lr9.length capr1) := hbk.c.cell 2
                  have c4 : W2.cell? ⟨hb, 4, none⟩ = some (.int .i64 fw) := hbk.c.cell 4
                  have c5 : W2.cell? ⟨hb, 5, none⟩ = some (.int .i64 gw) := hbk.c.cell 5
                  have f4 : W2.frozen? ⟨hb, 4, none⟩ = false := hbk.c.froz 4
                  have f5 : W2.frozen? ⟨hb, 5, none⟩ = false := hbk.c.froz 5
                  have HB9 := hid hbk
                  have hlo9 : es9.length = lo9.length := by rw [← HL9.out.1, List.length_map]
                  have hlr8 : rs9.length = lr9.length := by rw [← hlr9, List.length_map]
                  have H3 := hid (And.intro hlo9 hlr8)
                  clear hbk hlr9 hlq9 hlo9 hlr8
                  go_upto_region 44 with fail
                  go_cut [] from 226 to 241 (fun wx => Bk wx hb B (.slice ado1 lo9.length capo1) vw9 (.slice adr1 lr9.length capr1) vw1 lo9 lw9 lr9 lq9 lo9.length lr9.length ∧ Only [hb] W2 wx)
                  case first =>
                    go_region_law (fail)
                    all_goals
                      go_wp2
                      go_meet
                      case rel =>
                        have h := HB9.out.marks (a := lo9.length) (b := lr9.length) (Only.refl [] W2)
                        exact ⟨h.1.still (Only.refl [] _).drew, h.2.trans (Only.refl [hb] _).drew⟩
                  case rest =>
                  obtain ⟨hk9, ho9⟩ := hcut
                  have hbW : B ≤ W2.heap.size := by have := HB9.out.c.lt; have := HB9.out.bb; omega
                  have hf9 : FrT [27] B W2 wc := FrT.of ho9 hbW (fun b hm => by
                    have := List.mem_singleton.1 hm
                    subst this
                    exact ⟨HB9.out.bb, fun _ => ⟨27, by simp, HB9.out.ty.1⟩⟩)
                  have HBOOK := hid (show Book wc hb B es9 rs9 es9.length rs9.length from ⟨_, vw9, _, vw1, by
                      rw [HL9.out.1, HL9.out.2, HLR9.out.1, HLR9.out.2, H3.out.1, H3.out.2]
                      exact hk9, HGB.out.ee.fr hf9 (by decide), (HGB.out.rr.none (f' := rs9.length) (n' := rs9.length) (Nat.le_refl _)).fr hf9 (by decide), Nat.le_refl _, Nat.le_refl _, fun i e hi hf => by
                      have := (List.getElem?_eq_some_iff.1 hi).1; omega, fun i e hi hf => by
                      have := (List.getElem?_eq_some_iff.1 hi).1; omega⟩)
                  have HFR9 := hid (HGB.out.fr.trans (hf9.mono (by simp)))
                  have hq1 : es9.length ≤ 2 * es.length := by
                    have h1 := HL39.out
                    have h2 := HL.out.2.2.2.2.2.2.1
                    omega
                  have hq2 : rs9.length ≤ 2 * rs.length := by
                    have h1 := HGB.out.l2
                    have h2 := HL.out.2.2.2.2.2.2.2
                    omega
                  have h1 := HL.out.2.2.2.2.2.2.1
                  have h2 := HL.out.2.2.2.2.2.2.2
                  have HH9 := hid (holds_c HBOOK.out (by omega) (by omega))
                  have HBc := hid (show B ≤ wc.heap.size by have := hk9.c.lt; have := hk9.bb; omega)
                  have HQ := hid (And.intro hq1 hq2)
                  clear hk9 ho9 hf9 hq1 hq2 h1 h2 c0 c2 c4 c5 f4 f5 hbW
                  go_wp2_with fail
                  refine HH9.out.mono ?_
                  rintro e' w2 ⟨rfl, hoe⟩
                  have HOE := hid hoe
                  clear hoe
                  go_wp2_with fail
                  go_ret
                  exact ⟨rfl, es9, rs9, HBOOK.out.still HOE.out, HQ.out.1, HQ.out.2, HFR9.out.trans (FrT.only HOE.out HBc.out)⟩
end Go.Proofs.YthlbbinlkmchjaaDoor
