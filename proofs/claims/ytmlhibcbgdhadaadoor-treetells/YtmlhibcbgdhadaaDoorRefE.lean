/- The reference's question on what a node says. -/
import Derived.Test.YtmlhibcbgdhadaaDoorRefCAll
import Derived.Test.YtmlhibcbgdhadaaDoorWrtC
namespace Go.Proofs.YtmlhibcbgdhadaaDoor
open Go.RowKit

/-- no sibling stands ahead, behind which nothing of the Parent's is -/
theorem say_none {ns : List Nd} {n : Nat} (hg : Gd ns n) (hp : plc ns n = true) (h4 : nk ns n = 4) (hno : ∀ j : Nat, np ns n < j → j < n → np ns j ≠ np ns n) : (nk ns (n - 1) == 4 && np ns (n - 1) == np ns n) = false := by
  cases h : (nk ns (n - 1) == 4 && np ns (n - 1) == np ns n)
  · rfl
  · simp only [Bool.and_eq_true, beq_iff_eq] at h
    obtain ⟨k, hk, hpk, e1, -, -⟩ := (chs_say hg hp h4).1 h
    exact absurd e1 (hno k hpk hk)
theorem say_some {ns : List Nd} {n k : Nat} (hg : Gd ns n) (hp : plc ns n = true) (h4 : nk ns n = 4) (hk : k < n) (hpk : np ns n < k) (e : np ns k = np ns n) (hno : ∀ j : Nat, k < j → j < n → np ns j ≠ np ns n) :
    (!(nk ns (n - 1) == 4 && np ns (n - 1) == np ns n)) = (nk ns k != 4) := by
  by_cases h : nk ns k = 4
  · have := (chs_say hg hp h4).2 ⟨k, hk, hpk, e, h, hno⟩
    rw [this.1, this.2, h]; simp
  · have : (nk ns (n - 1) == 4 && np ns (n - 1) == np ns n) = false := by
      cases h2 : (nk ns (n - 1) == 4 && np ns (n - 1) == np ns n)
      · rfl
      · simp only [Bool.and_eq_true, beq_iff_eq] at h2
        obtain ⟨k', hk', hpk', e1, e2, hno'⟩ := (chs_say hg hp h4).1 h2
        rcases Nat.lt_trichotomy k' k with g | g | g
        · exact absurd e (hno' k g hk)
        · subst g; exact absurd e2 h
        · exact absurd e1 (hno k' g hk')
    rw [this]; simp [h]
set_option maxRecDepth 100000 in
set_option maxHeartbeats 8000000 in
theorem written_c' {xs : List (Nd × Value)} {ad : Option Addr} {cap C n : Nat} (hg : Gd (nds xs) n) (hp : plc (nds xs) n = true) (hn : n < xs.length) (hlen : xs.length ≤ 4294967296) (hf : ∀ x ∈ xs, Fit x.1) (w : World) (hNL : NL w C ad xs) :
    Calls Tryd.prog 34 #[.slice ad xs.length cap, .int .i64 n] w fun e w' => e = .returned (.bool (say (nds xs) n)) ∧ Only [] w w' := by
  obtain ⟨x, hx⟩ := some_at (xs := xs) (i := n) hn
  obtain ⟨xn, xv⟩ := x
  obtain ⟨ca, cc, hcv, hcs⟩ := hNL.cv _ (List.mem_of_getElem? hx)
  dsimp only at hcv hcs
  subst hcv
  obtain ⟨b, off, rfl, hbC, hbw, hc⟩ := hNL.at_ hx
  have hkx := nk_of (nds_get hx)
  have hpx := np_of (nds_get hx)
  have hdx := nd_of (nds_get hx)
  dsimp only at hkx hpx hdx
  have hfc := (hf _ (List.mem_of_getElem? hx)).chs
  dsimp only at hfc
  have HNL := hid hNL
  have HCS := hid hcs
  have hnl : (n : Int) < (xs.length : Int) := by omega
  have hn0 : (0 : Int) ≤ (n : Int) := by omega
  have hn8 : (n : Int) ≤ 4294967296 := by omega
  obtain ⟨m, hm⟩ : ∃ m, xn.chs.length = m := ⟨_, rfl⟩
  have HM := hid hm
  rw [hm] at hc hfc HCS
  have c0 := hc 0 _ rfl
  have c1 := hc 1 _ rfl
  have c2 := hc 2 _ rfl
  have c3 := hc 3 _ rfl
  have c4 := hc 4 _ rfl
  have c5 := hc 5 _ rfl
  have c6 := hc 6 _ rfl
  have c7 := hc 7 _ rfl
  have c8 := hc 8 _ rfl
  have c9 := hc 9 _ rfl
  have c10 := hc 10 _ rfl
  have c11 := hc 11 _ rfl
  have c12 := hc 12 _ rfl
  simp only [Nat.add_zero] at c0
  dsimp only at c0 c1 c2 c3 c4 c5 c6 c7 c8 c9 c10 c11
  have HBW := hid hbw
  have HAT : Hid (∀ k, k < xs.length → ∀ W, Only [] w W → W.cell? ⟨b, off + k * 13, none⟩ = some (.int .i64 (nk (nds xs) k)) ∧ W.cell? ⟨b, off + k * 13 + 1, none⟩ = some (.int .i64 (np (nds xs) k))) := fun k hk W o => by
    obtain ⟨y, hy⟩ := some_at (xs := xs) (i := k) hk
    obtain ⟨b', off', e', -, -, hc'⟩ := HNL.out.at_ hy
    cases e'
    have d0 := hc' 0 _ rfl
    simp only [Nat.add_zero] at d0
    rw [nk_of (nds_get hy), np_of (nds_get hy)]
    exact ⟨cell_keep o HBW.out d0, cell_keep o HBW.out (hc' 1 _ rfl)⟩
  have HS : Hid (say (nds xs) n = if xn.kind = 4 then !xn.chs.isEmpty && !(nk (nds xs) (n - 1) == 4 && np (nds xs) (n - 1) == np (nds xs) n) && (textM xn.chs).isSome else xn.chs.isEmpty) := by
    show _ = _; unfold say; rw [hkx, hdx]
  have HTX := hid (fun W (o : Only [] w W) => refText_c (cap := cc) ((hcs.keep o (by simp)).sl) (by rw [hm]; exact hfc))
  rw [hm] at HTX
  obtain ⟨r, hr⟩ : ∃ r, say (nds xs) n = r := ⟨_, rfl⟩
  rw [hr] at HS ⊢
  have HG := hid hg
  have HP := hid hp
  have HN := hid hn
  have HKX := hid hkx
  obtain ⟨N, hN⟩ : ∃ N, xs.length = N := ⟨_, rfl⟩
  rw [hN] at hnl HAT HN ⊢
  have hpos : nk (nds xs) n = 4 → 0 < n := fun h => by
    rcases Nat.eq_zero_or_pos n with e | e
    · subst e; have := (plc_zero HP.out).1; omega
    · exact e
  have HPOS := hid hpos
  have hpar : xn.kind = 4 → 0 ≤ xn.par ∧ xn.par < n := fun h => by
    have h0 := hpos (hkx.trans h)
    obtain ⟨q1, q2, -, -⟩ := plc_pos HP.out h0
    have := way_le HG.out.pn (n - 1) (by omega) _ q2
    omega
  have HPAR := hid hpar
  clear hr hx hc hm hNL hbC hg hp hn hkx hdx hcs hf hlen hN hpos hpar
  have hem : (m = 0 ∧ xn.chs.isEmpty = true ∧ ((m : Int) == 0) = true) ∨ (m ≠ 0 ∧ xn.chs.isEmpty = false ∧ ((m : Int) == 0) = false) := by
    rcases hq : xn.chs with _ | ⟨a, t⟩
    · have := HM.out; rw [hq] at this; simp at this; exact .inl ⟨this.symm, rfl, by simp; omega⟩
    · have := HM.out; rw [hq] at this; simp at this; exact .inr ⟨by omega, rfl, by simp; omega⟩
  by_cases h4 : xn.kind = 4
  · have g4 : (xn.kind != 4) = false := by simp [h4]
    have HS2 : Hid (r = (!xn.chs.isEmpty && !(nk (nds xs) (n - 1) == 4 && np (nds xs) (n - 1) == np (nds xs) n) && (textM xn.chs).isSome)) := by
      show _ = _; rw [HS.out, if_pos h4]
    have hp4 := HPAR.out h4
    have HN0 : Hid (0 < n) := HPOS.out (HKX.out.trans h4)
    have HK4 : Hid (nk (nds xs) n = 4) := HKX.out.trans h4
    clear h4 HS
    rcases hem with ⟨hm0, he, ht⟩ | ⟨hm0, he, ht⟩
    · have hf : r = false := by rw [HS2.out, he]; rfl
      subst hf
      clear hm0 he hpx
      go_enter Tryd.func34, Tryd.ntmps34
      go_wp2_with fail
      go_ret
      exact ⟨rfl, (Only.refl _ _).alloc _⟩
    · have HE := hid he
      clear hm0 he
      rcases htx : textM xn.chs with _ | bs
      · have hf : r = false := by rw [HS2.out, htx]; simp
        subst hf
        rw [htx] at HTX
        unfold textV at HTX
        clear htx hpx
        go_enter Tryd.func34, Tryd.ntmps34
        go_wp2_with fail
        refine (HTX.out _ ((Only.refl _ _).alloc _)).mono ?_
        rintro e w1 ⟨rfl, o⟩
        have HO := hid o
        clear o
        go_wp2_with fail
        go_ret
        exact ⟨rfl, ((Only.refl _ _).alloc _).trans HO.out⟩
      · have HS3 : Hid (r = !(nk (nds xs) (n - 1) == 4 && np (nds xs) (n - 1) == np (nds xs) n)) := by show _ = _; rw [HS2.out, htx, HE.out]; simp
        rw [htx] at HTX
        unfold textV at HTX
        clear htx HS2
        obtain ⟨p, hp⟩ : ∃ p : Nat, xn.par = (p : Int) := ⟨xn.par.toNat, by omega⟩
        rw [hp] at c1 hp4 hpx
        have HPX := hid hpx
        have hpn : p < n := by omega
        have hn1 : (1 : Int) ≤ (n : Int) := by omega
        have hp0 : (0 : Int) ≤ (p : Int) := by omega
        go_enter Tryd.func34, Tryd.ntmps34
        go_wp2_with fail
        refine (HTX.out _ ((Only.refl _ _).alloc _)).mono ?_
        rintro e w1 ⟨rfl, o⟩
        rw [← hp] at o
        have HB1 : Hid (Blk w1 w.heap.size (ndc (xn, .slice ca m cc)) 42) := o.blk (Blk.new w (ndc (xn, .slice ca m cc)).toArray 42 rfl) (by simp)
        have HO1 : Hid (Only [] w w1) := ((Only.refl _ _).alloc _).trans o
        have HPR := hid hp
        clear o hpx hp4
        go_wp2_with fail
        go_loopw [8] (fun v wr => ∃ q : Int, v = .int .i64 q ∧ p ≤ q ∧ q < n ∧ Hid (∀ j : Nat, q < j → j < n → np (nds xs) j ≠ np (nds xs) n) ∧ Only [] w1 wr) (fun v _ => (RowKit.intOf v).toNat)
        case atStart => exact ⟨(n : Int) - 1, rfl, by omega, by omega, fun j h1 h2 => by omega, Only.refl _ _⟩
        case round =>
          obtain ⟨q, rfl, hq1, hq2, hno, ho⟩ := hrel
          obtain ⟨k, rfl⟩ : ∃ k : Nat, q = (k : Int) := ⟨q.toNat, by omega⟩
          have hbk : Blk wr w.heap.size (ndc (xn, .slice ca m cc)) 42 := ho.blk HB1.out (by simp)
          have e1 : wr.cell? ⟨w.heap.size, 1, none⟩ = some (.int .i64 (p : Int)) := by rw [← HPR.out]; exact hbk.cell 1
          have HO := hid ho
          by_cases hlt : p < k
          · have hd : decide ((p : Int) < (k : Int)) = true := decide_eq_true (by omega)
            have hd2 : (p : Int) < (k : Int) := by omega
            have hkl : (k : Int) < (N : Int) := by have := HN.out; omega
            have hk0 : (0 : Int) ≤ (k : Int) := by omega
            have HKN : Hid (k < n) := by show _ < _; omega
            have g0 := fun d os => (HAT.out k (by have := HN.out; omega) _ (HO1.out.trans (ho.trans (only_behind wr d os)))).1
            have g1 := fun d os => (HAT.out k (by have := HN.out; omega) _ (HO1.out.trans (ho.trans (only_behind wr d os)))).2
            have e2 : ∀ d os, (behind wr d os).cell? ⟨w.heap.size, 1, none⟩ = some (.int .i64 (p : Int)) := fun d os => (cell_behind hbk.lt d os).trans e1
            obtain ⟨kk, hkk⟩ : ∃ kk, nk (nds xs) k = kk := ⟨_, rfl⟩
            obtain ⟨pk, hpk⟩ : ∃ pk, np (nds xs) k = pk := ⟨_, rfl⟩
            rw [hkk] at g0
            rw [hpk] at g1
            have HKK := hid hkk
            have HPK := hid hpk
            clear hkk hpk ho hbk
            by_cases heq : pk = (p : Int)
            · have hb : (pk == (p : Int)) = true := by simp [heq]
              have hf : Hid (r = (kk != 4)) := by
                show _ = _
                rw [HS3.out, say_some HG.out HP.out HK4.out HKN.out (by rw [HPX.out]; omega) (by rw [HPK.out, HPX.out, heq]) (fun j h1 h2 => hno.out j (by omega) h2), HKK.out]
              clear heq hno
              go_wp2_with fail
              refine wp_region_behind (by kernel_rfl) (by kernel_rfl) ?_
              repeat (go_big_quiet_step (fail))
              refine wpQuiet_nil ?_
              intro _ hw'
              obtain ⟨⟨dq, osq⟩, hw''⟩ := hw'
              subst hw''
              go_wp2_with fail
              go_ret
              exact ⟨ret_bool hf.out.symm, HO1.out.trans (HO.out.trans (only_behind _ _ _))⟩
            · have hb : (pk == (p : Int)) = false := by simp [heq]
              have HNO : Hid (∀ j : Nat, (k : Int) - 1 < j → j < n → np (nds xs) j ≠ np (nds xs) n) := fun j h1 h2 => by
                rcases Nat.lt_or_ge k j with g | g
                · exact hno.out j (by omega) h2
                · have : j = k := by omega
                  subst this; rw [HPK.out, HPX.out]; exact heq
              have hk1 : (1 : Int) ≤ (k : Int) := by omega
              clear heq hno
              go_wp2_with fail
              refine wp_region_behind (by kernel_rfl) (by kernel_rfl) ?_
              repeat (go_big_quiet_step (fail))
              refine wpQuiet_nil ?_
              intro _ hw'
              obtain ⟨⟨dq, osq⟩, hw''⟩ := hw'
              subst hw''
              go_wp2_with fail
              go_roundw
              case rel => exact ⟨(k : Int) - 1, rfl, by omega, by omega, HNO.out, HO.out.trans (only_behind _ _ _)⟩
              case measure => simp [RowKit.intOf]; omega
          · have hd : decide ((p : Int) < (k : Int)) = false := decide_eq_false (by omega)
            have hd2 : ¬ (p : Int) < (k : Int) := by omega
            have hf : r = true := by
              rw [HS3.out, say_none HG.out HP.out HK4.out (fun j h1 h2 => hno.out j (by rw [HPX.out] at h1; omega) h2)]; rfl
            subst hf
            clear hno hbk ho
            go_wp2_with fail
            go_ret
            exact ⟨rfl, HO1.out.trans HO.out⟩
  · have g4 : (xn.kind != 4) = true := by simp [h4]
    have HS2 : Hid (r = xn.chs.isEmpty) := by show _ = _; rw [HS.out, if_neg h4]
    clear h4 HS hpx
    rcases hem with ⟨hm0, he, ht⟩ | ⟨hm0, he, ht⟩
    · have hf : r = true := by rw [HS2.out, he]
      subst hf
      clear hm0 he
      go_enter Tryd.func34, Tryd.ntmps34
      go_wp2_with fail
      go_ret
      exact ⟨rfl, (Only.refl _ _).alloc _⟩
    · have hf : r = false := by rw [HS2.out, he]
      subst hf
      clear hm0 he
      go_enter Tryd.func34, Tryd.ntmps34
      go_wp2_with fail
      go_ret
      exact ⟨rfl, (Only.refl _ _).alloc _⟩
end Go.Proofs.YtmlhibcbgdhadaaDoor
