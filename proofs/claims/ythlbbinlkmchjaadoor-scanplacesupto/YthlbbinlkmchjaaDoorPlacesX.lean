/- ScanPlaces' walk. -/
import Derived.Test.YthlbbinlkmchjaaDoorBlanks
namespace Go.Proofs.YthlbbinlkmchjaaDoor
open Go.RowKit

/-- what the token ahead of the k-th says: 1: within a tag -/
def wk (T : List Tk) : Nat → Nat
  | 0 => 0
  | k + 1 => match T[k]? with
    | some t => within t
    | none => 0
theorem wk_succ {T : List Tk} {k : Nat} {t : Tk} (h : T[k]? = some t) : wk T (k + 1) = within t := by show (match T[k]? with | some t => within t | none => 0) = _; rw [h]
theorem within_one {t : Tk} (h : within t = 1) : t.kd = 1 ∨ (t.kd = 2 ∧ t.kd ≠ 1) := by unfold within at h; split at h <;> omega
theorem within_zero {t : Tk} (h : within t = 0) : t.kd ≠ 1 ∧ t.kd ≠ 2 := by
  unfold within at h
  split at h
  · cases h
  · omega
theorem drop_at {α : Type} {l : List α} {k : Nat} {x : α} (h : l[k]? = some x) : l.drop k = x :: l.drop (k + 1) := by
  obtain ⟨hk, rfl⟩ := List.getElem?_eq_some_iff.1 h
  exact List.drop_eq_getElem_cons hk
/-- the ways of a token -/
theorem pl_ways {L : List Nat} {w a : Nat} {t : Tk} {ts : List Tk} (h : Pl L w a (t :: ts)) :
    (a ≤ t.at_ ∧ t.at_ < t.en ∧ t.en ≤ L.length ∧ Gap L a t.at_ ∧ Pl L (within t) t.en ts) ∧
      ((w = 0 ∧ t.at_ = a ∧ t.kd ≠ 2 ∧ t.kd ≠ 3 ∧ t.kd ≠ 5) ∨ (w = 0 ∧ t.at_ = a ∧ t.kd = 5 ∧ Cs t.at_ t.ch t.en) ∨ (w = 1 ∧ t.kd = 3) ∨ (w = 1 ∧ t.kd = 2 ∧ a < t.at_)) := by
  obtain ⟨⟨h1, h2, h3, h4⟩, h5, h6, h7⟩ := h
  refine ⟨⟨h1, h2, h3, h4, h7⟩, ?_⟩
  rcases h5 with ⟨g1, g2, g3 | g3 | g3⟩ | ⟨g1, g3 | ⟨g3, g4⟩⟩
  · exact .inl ⟨g1, g2, by omega, by omega, by omega⟩
  · exact .inl ⟨g1, g2, by omega, by omega, by omega⟩
  · exact .inr (.inl ⟨g1, g2, g3, h6 g3⟩)
  · exact .inr (.inr (.inl ⟨g1, g3⟩))
  · exact .inr (.inr (.inr ⟨g1, g3, g4⟩))
theorem gap_blanks {s : ByteArray} {a b : Nat} (hb : b ≤ s.size) (h : Gap (bl s) a b) : ∀ i, i < (s.extract a b).size → isB ((bl (s.extract a b)).getD i 0) = true := by
  intro i hi
  rw [ByteArray.size_extract, Nat.min_eq_left hb] at hi
  rw [bl_extract, List.getD_eq_getElem?_getD, List.getElem?_take, if_pos hi, List.getElem?_drop, ← List.getD_eq_getElem?_getD]
  exact h (a + i) (by omega) (by omega)
theorem extract_none (s : ByteArray) (a : Nat) : s.extract a a = ⟨#[]⟩ := bl_inj (by rw [bl_extract, Nat.sub_self, List.take_zero]; rfl)
theorem extract_some {s : ByteArray} {a b : Nat} (h : a < b) (hb : b ≤ s.size) : ¬ s.extract a b = ⟨#[]⟩ := by
  intro e
  have := congrArg ByteArray.size e
  rw [ByteArray.size_extract, Nat.min_eq_left hb] at this
  have h0 : (⟨#[]⟩ : ByteArray).size = 0 := rfl
  omega

theorem some_empty {g : ByteArray} (h : ¬ g = ⟨#[]⟩) : g.toList.isEmpty = false := by
  rw [ByteArray.toList_eq]
  rcases hl : g.data.toList with _ | ⟨x, l⟩
  · exfalso
    apply h
    cases g with | mk d =>
    congr 1
    simpa using hl
  · rfl
set_option maxRecDepth 100000 in
set_option maxHeartbeats 16000000 in
theorem places_walk (s : ByteArray) (hs : s.size ≤ 1048576) (w : World) (hT : Tc w) :
    Calls Tryd.prog 7 #[.string s] w fun e w' => e = .returned (.bool true) ∧ Only [] w w' := by
  have HT := hid hT
  have h3 := hid hT.tb.size
  have HSH := hid (shown_c hT)
  clear hT
  go_enter Tryd.func7, Tryd.ntmps7
  go_wp2_with fail
  refine HSH.out.mono ?_
  rintro e w1 ⟨rfl, ho1⟩
  have HO1 := hid ho1
  clear ho1
  go_wp2_with fail
  refine (great_c w1).mono ?_
  rintro e w2 ⟨rfl, rfl⟩
  have HM := hid (Blk.new w1 gM.cells.toArray 68 rfl)
  have HO2 := hid (HO1.out.alloc (.cells gM.cells.toArray 68))
  have h3a : 3 ≤ w1.heap.size := Nat.le_trans h3.out HO1.out.size
  go_wp2_with fail
  refine (scanG_c HM.out (by omega) (HT.out.only HO2.out (by simp)) h3a).mono ?_
  rintro e w3 ⟨tv, xs, rfl, htl, -, ho3, htk⟩
  have HO3 : Hid (Only [] w w3) := hid (HO2.out.fresh ho3 (fun i hi hlt => by simp at hi; subst hi; have := HO1.out.size; omega))
  obtain ⟨ad, cap, rfl, hsl⟩ := htl.sl
  have HTL := hid htl
  have HSL := hid hsl
  have HTK := hid htk
  clear htl hsl ho3 htk
  obtain ⟨k, hk⟩ : ∃ k, (fl s).1 = k := ⟨_, rfl⟩
  obtain ⟨n, hn⟩ : ∃ n, (fl s).2 = n := ⟨_, rfl⟩
  have HK : Hid (fl s = (k, n)) := hid (by rw [← hk, ← hn])
  rw [hk, hn]
  clear hk hn
  have hgd := guard35
  have q1 := neqF k n 0 0
  obtain ⟨nx, hnx⟩ : ∃ nx, xs.length = nx := ⟨_, rfl⟩
  rw [hnx]
  have HNX := hid hnx
  clear hnx
  rcases hh : (k == 0) && (n == 0) with _ | _
  · rw [hh] at q1
    have hne : fl s ≠ (0, 0) := by
      rw [HK.out]
      intro e
      obtain ⟨rfl, rfl⟩ := Prod.mk.inj e
      simp at hh
    obtain ⟨kk, nn, -, -, htks⟩ := gs_some hne
    have hnx0 : nx = 0 := by
      have h1 := HTK.out
      rw [htks] at h1
      rw [← HNX.out]
      simpa using h1
    subst hnx0
    clear hh hne htks
    go_wp2_with fail
    go_ret
    exact ⟨rfl, (HO3.out.alloc _)⟩
  · rw [hh] at q1
    have h0 : fl s = (0, 0) := by
      rw [HK.out]
      simp at hh
      rw [hh.1, hh.2]
    obtain ⟨hgs, htks⟩ := gs_none h0
    have hpl := gs_pl hgs
    obtain ⟨T, hTT⟩ : ∃ T, (GS s 0 0).1 = T := ⟨_, rfl⟩
    rw [hTT] at hpl htks
    have hxs : xs.map (·.1) = T := by rw [HTK.out, htks]
    have HXS := hid hxs
    have HPL := hid hpl
    have HSZ := hid hs
    have hnb : nx ≤ 1048576 := by
      have h1 := G_few ((rest s 0).length + 1) 0 0 (rest s 0)
      rw [show G ((rest s 0).length + 1) 0 0 (rest s 0) = GS s 0 0 from rfl, hTT, rest_length, ← hxs, List.length_map, HNX.out] at h1
      omega
    clear hh h0 hgs htks hpl hTT hxs
    go_wp2_with fail
    have HO4 := hid (HO3.out.alloc (.cells #[.int .i64 k, .int .i64 n] 35))
    have HSL4 := hid (HSL.out.only ((Only.refl [] w3).alloc (.cells #[.int .i64 k, .int .i64 n] 35)))
    have HCH4 := hid (fun x (hx : x ∈ xs) => (show ∃ ad cap, x.2.cv = .slice ad x.1.ch.length cap ∧ Sl (w3.alloc (.cells #[.int .i64 k, .int .i64 n] 35)) ad x.1.ch.length (x.1.ch.flatMap chc) by
      obtain ⟨ad, cap, e, h⟩ := HTL.out.chs hx
      exact ⟨ad, cap, e, h.only ((Only.refl [] w3).alloc _)⟩))
    obtain ⟨W4, hW4⟩ : ∃ W4, w3.alloc (.cells #[.int .i64 k, .int .i64 n] 35) = W4 := ⟨_, rfl⟩
    rw [hW4] at HO4 HSL4 HCH4 ⊢
    clear hW4 HTL HSL q1
    rw [HNX.out] at HSL4
    go_loopw [5, 29] (fun va vi wr => ∃ (i a : Nat), va = .int .i64 a ∧ vi = .int .i64 i ∧ i ≤ nx ∧ Pl (bl s) (wk T i) a (T.drop i) ∧ Only [] W4 wr) (fun _ vi _ => nx - (RowKit.intOf vi).toNat)
    case atStart => exact ⟨0, 0, rfl, rfl, by omega, HPL.out, Only.refl _ _⟩
    case round =>
      obtain ⟨i, a, rfl, rfl, hi, hp, ho⟩ := hrel
      have HOK := hid ho
      clear ho
      by_cases hlt : i < nx
      · obtain ⟨x, hxk⟩ := some_at (xs := xs) (i := i) (by rw [HNX.out]; exact hlt)
        have hTi : T[i]? = some x.1 := by rw [← HXS.out, List.getElem?_map, hxk]; rfl
        rw [drop_at hTi] at hp
        obtain ⟨⟨ha, he, hl, hgap, hnext⟩, hways⟩ := pl_ways hp
        rw [bl_length] at hl
        rw [← wk_succ hTi] at hnext
        have HS := hid (show Sl wr ad xs.length (xs.flatMap tmc) by rw [HNX.out]; exact HSL4.out.only HOK.out)
        obtain ⟨adc, capc, hcv, hsc⟩ := HCH4.out x (List.mem_of_getElem? hxk)
        obtain ⟨b, off, rfl, hbl, e0, e1, e2, e3, e4, e5, e6⟩ := HS.out.tok hxk
        rw [hcv] at e5
        have hbw : ¬ b = wr.heap.size := by omega
        obtain ⟨⟨kd, at_, en, nmL, vlL, em, ch⟩, ⟨nm, vl, cv⟩⟩ := x
        simp only at ha he hl hgap hnext hways hcv hsc e0 e1 e2 e3 e4 e5 e6
        obtain ⟨g, hg⟩ : ∃ g, s.extract a at_ = g := ⟨_, rfl⟩
        have HBK := hid (fun W => blanks_true g W (by rw [← hg, ByteArray.size_extract]; omega) (by rw [← hg]; exact gap_blanks (by omega) hgap))
        have c1 : ¬ (at_ : Int) < (a : Int) := by omega
        have c2 : ¬ (en : Int) ≤ (at_ : Int) := by omega
        have c3 : ¬ (s.size : Int) < (en : Int) := by omega
        have hz0 : (0 : Int) ≤ (a : Int) := by omega
        have hz1 : (a : Int) ≤ (at_ : Int) := by omega
        have hz2 : (at_ : Int) ≤ (s.size : Int) := by omega
        have hil : (i : Int) < (nx : Int) := by omega
        have hi0 : (0 : Int) ≤ (i : Int) := by omega
        have HNEXT := hid hnext
        have HLT := hid hlt
        have HSC := hid hsc
        have HBL := hid hbl
        have HCP := hid (fun (kd : Int) i => cell_past wr (.cells #[.int .i64 kd, .int .i64 at_, .int .i64 en, .string nm, .string vl, .slice adc ch.length capc, .bool em] 48) b i hbl)
        have HALE := hid hl
        have hprev : (wk T i = 0 ∧ i = 0) ∨ (∃ (j y : Nat), 0 < i ∧ j + 1 = i ∧ j < nx ∧ wr.cell? ⟨b, off + j * 7, none⟩ = some (.int .i64 y) ∧ ((wk T i = 0 ∧ y ≠ 1 ∧ y ≠ 2) ∨ (wk T i = 1 ∧ y = 1) ∨ (wk T i = 1 ∧ y = 2))) := by
          rcases i with _ | j
          · exact .inl ⟨rfl, rfl⟩
          · obtain ⟨y, hyk⟩ := some_at (xs := xs) (i := j) (by rw [HNX.out]; omega)
            have hTj : T[j]? = some y.1 := by rw [← HXS.out, List.getElem?_map, hyk]; rfl
            obtain ⟨b', off', eb, -, f0, -⟩ := HS.out.tok hyk
            obtain ⟨rfl, rfl, -⟩ : b = b' ∧ off = off' ∧ True := by simpa using eb
            refine .inr ⟨j, y.1.kd, Nat.succ_pos _, rfl, by omega, f0, ?_⟩
            rw [wk_succ hTj]
            rcases Nat.lt_or_ge (within y.1) 1 with q | q
            · exact .inl ⟨by omega, within_zero (by omega)⟩
            · have := within_le y.1
              rcases within_one (t := y.1) (by omega) with g | g
              · exact .inr (.inl ⟨by omega, g⟩)
              · exact .inr (.inr ⟨by omega, g.1⟩)
        clear ha he hgap hnext hp hxk hTi hcv hsc hbl
        rcases hways with ⟨hw, hA, hk2, hk3, hk5⟩ | ⟨hw, hA, rfl, hcs⟩ | ⟨hw, rfl⟩ | ⟨hw, rfl, hA⟩
        · have hk2' : ¬ (kd : Int) = 2 := by omega
          have hk3' : ¬ (kd : Int) = 3 := by omega
          have hk5' : ¬ (kd : Int) = 5 := by omega
          have hb2 : ((kd : Int) == 2) = false := by simpa using hk2'
          have hb3 : ((kd : Int) == 3) = false := by simpa using hk3'
          clear hk2 hk3 hk5
          have hgn : g = ⟨#[]⟩ := by rw [← hg, hA]; exact extract_none s a
          subst hgn
          rcases hprev with ⟨-, hi00⟩ | ⟨j, y, hjp, hji, hjn, hcy, ⟨-, hy1, hy2⟩ | ⟨hw1, -⟩ | ⟨hw1, -⟩⟩
          · have hip : ¬ (0 : Int) < (i : Int) := by omega
            clear hi00 hw hlt hA
            go_wp2_with fail
            refine (HBK.out _).mono ?_
            rintro e w5 ⟨rfl, rfl⟩
            go_wp2_with fail
            go_roundw
            case rel => exact ⟨i + 1, en, rfl, by go_num, HLT.out, HNEXT.out, HOK.out.alloc _⟩
            case measure => have := HLT.out; simp [RowKit.intOf]; omega
          · have hip : (0 : Int) < (i : Int) := by omega
            have hwj : IntKind.i64.wrap ((i : Int) - 1) = (j : Int) := (IntWalk.i64_in _ (by omega)).trans (by omega)
            have hj0 : (0 : Int) ≤ (j : Int) := by omega
            have hjl : (j : Int) < (nx : Int) := by omega
            have hy1' : ¬ (y : Int) = 1 := by omega
            have hy2' : ¬ (y : Int) = 2 := by omega
            have hyb1 : ((y : Int) == 1) = false := by simpa using hy1'
            have hyb2 : ((y : Int) == 2) = false := by simpa using hy2'
            have hcy2 : (wr.alloc (.cells #[.int .i64 kd, .int .i64 at_, .int .i64 en, .string nm, .string vl, .slice adc ch.length capc, .bool em] 48)).cell? ⟨b, off + j * 7, none⟩ = some (.int .i64 y) := (HCP.out _ _).trans hcy
            clear hjp hji hjn hw hlt hy1 hy2 hA
            go_wp2_with fail
            refine (HBK.out _).mono ?_
            rintro e w5 ⟨rfl, rfl⟩
            go_wp2_with fail
            go_roundw
            case rel => exact ⟨i + 1, en, rfl, by go_num, HLT.out, HNEXT.out, HOK.out.alloc _⟩
            case measure => have := HLT.out; simp [RowKit.intOf]; omega
          · exact absurd (hw.symm.trans hw1) (by decide)
          · exact absurd (hw.symm.trans hw1) (by decide)
        · have HCS := hid hcs
          clear hcs
          have hgn : g = ⟨#[]⟩ := by rw [← hg, hA]; exact extract_none s a
          subst hgn
          rcases hprev with ⟨-, hi00⟩ | ⟨j, y, hjp, hji, hjn, hcy, ⟨-, hy1, hy2⟩ | ⟨hw1, -⟩ | ⟨hw1, -⟩⟩
          · have hip : ¬ (0 : Int) < (i : Int) := by omega
            clear hi00 hw hlt hA
            have HTB := hid (Blk.new wr #[.int .i64 5, .int .i64 at_, .int .i64 en, .string nm, .string vl, .slice adc ch.length capc, .bool em] 48 rfl)
            have HWO := hid (HOK.out.alloc (.cells #[.int .i64 5, .int .i64 at_, .int .i64 en, .string nm, .string vl, .slice adc ch.length capc, .bool em] 48))
            have HSC5 := hid (HSC.out.only HWO.out)
            obtain ⟨m, hm⟩ : ∃ m, ch.length = m := ⟨_, rfl⟩
            rw [hm] at HTB HWO e5 HSC5
            try rw [hm] at hcy2
            have hmb : m ≤ 1048576 := by have := HCS.out.len; have := HALE.out; have := HSZ.out; omega
            have HMM := hid hm
            clear hm HCP
            go_wp2_with fail
            refine (HBK.out _).mono ?_
            rintro e w5 ⟨rfl, rfl⟩
            go_wp2_with fail
            obtain ⟨wo, hwo⟩ : ∃ wo : World, wo = wr.alloc (.cells #[.int .i64 5, .int .i64 at_, .int .i64 en, .string nm, .string vl, .slice adc m capc, .bool em] 48) := ⟨_, rfl⟩
            rw [← hwo] at HTB HWO HSC5 ⊢
            obtain ⟨tb, htb⟩ : ∃ tb, wr.heap.size = tb := ⟨_, rfl⟩
            rw [htb] at HTB ⊢
            clear hwo htb hbw
            go_loopw [10, 115] (fun vc vj wq => ∃ (j c : Nat), vc = .int .i64 c ∧ vj = .int .i64 j ∧ j ≤ m ∧ Cs c (ch.drop j) en ∧ Only [] wo wq) (fun _ vj _ => m - (RowKit.intOf vj).toNat)
            case atStart => exact ⟨0, at_, rfl, rfl, Nat.zero_le _, HCS.out, Only.refl _ _⟩
            case round =>
              obtain ⟨j, c, rfl, rfl, hj, hc, hoq⟩ := hrel
              have HOQ := hid hoq
              have t1 : wr.cell? ⟨tb, 2, none⟩ = some (.int .i64 en) := (hoq.blk HTB.out (by simp)).cell 2
              clear hoq
              by_cases hjlt : j < m
              · obtain ⟨y, hyk⟩ := some_at (xs := ch) (i := j) (by rw [HMM.out]; exact hjlt)
                rw [drop_at hyk] at hc
                obtain ⟨hc1, hc2, hc3⟩ := hc
                have HC3 := hid hc3
                have HS9 := hid (show Sl wr adc ch.length (ch.flatMap chc) by rw [HMM.out]; exact HSC5.out.only HOQ.out)
                obtain ⟨b9, off9, rfl, hbl9, g0, g1, g2⟩ := HS9.out.char hyk
                obtain ⟨yr, yf, yt⟩ := y
                simp only at hc1 hc2 hc3 g0 g1 g2 HC3
                have hcf : (yf : Int) = (c : Int) := by omega
                have hct : ¬ (yt : Int) ≤ (c : Int) := by omega
                have hjl : (j : Int) < (m : Int) := by omega
                have hj0 : (0 : Int) ≤ (j : Int) := by omega
                have HJ := hid hjlt
                subst hc1
                clear hjlt hyk hc3 hc2 hbl9 hcf
                go_wp2_with fail
                go_roundw
                case rel => exact ⟨j + 1, yt, rfl, by go_num, HJ.out, HC3.out, HOQ.out.alloc _⟩
                case measure => have := HJ.out; simp [RowKit.intOf]; omega
              · have hjl : ¬ (j : Int) < (m : Int) := by omega
                rw [List.drop_eq_nil_of_le (by rw [HMM.out]; omega)] at hc
                have hce : c = en := hc
                subst hce
                clear hjlt hc
                go_wp2_with fail
                go_roundw
                case rel => exact ⟨i + 1, c, rfl, by go_num, HLT.out, HNEXT.out, HWO.out.trans HOQ.out⟩
                case measure => have := HLT.out; simp [RowKit.intOf]; omega
          · have hip : (0 : Int) < (i : Int) := by omega
            have hwj : IntKind.i64.wrap ((i : Int) - 1) = (j : Int) := (IntWalk.i64_in _ (by omega)).trans (by omega)
            have hj0 : (0 : Int) ≤ (j : Int) := by omega
            have hjl : (j : Int) < (nx : Int) := by omega
            have hy1' : ¬ (y : Int) = 1 := by omega
            have hy2' : ¬ (y : Int) = 2 := by omega
            have hyb1 : ((y : Int) == 1) = false := by simpa using hy1'
            have hyb2 : ((y : Int) == 2) = false := by simpa using hy2'
            have hcy2 : (wr.alloc (.cells #[.int .i64 5, .int .i64 at_, .int .i64 en, .string nm, .string vl, .slice adc ch.length capc, .bool em] 48)).cell? ⟨b, off + j * 7, none⟩ = some (.int .i64 y) := (HCP.out _ _).trans hcy
            clear hjp hji hjn hw hlt hy1 hy2 hA
            have HTB := hid (Blk.new wr #[.int .i64 5, .int .i64 at_, .int .i64 en, .string nm, .string vl, .slice adc ch.length capc, .bool em] 48 rfl)
            have HWO := hid (HOK.out.alloc (.cells #[.int .i64 5, .int .i64 at_, .int .i64 en, .string nm, .string vl, .slice adc ch.length capc, .bool em] 48))
            have HSC5 := hid (HSC.out.only HWO.out)
            obtain ⟨m, hm⟩ : ∃ m, ch.length = m := ⟨_, rfl⟩
            rw [hm] at HTB HWO e5 HSC5
            try rw [hm] at hcy2
            have hmb : m ≤ 1048576 := by have := HCS.out.len; have := HALE.out; have := HSZ.out; omega
            have HMM := hid hm
            clear hm HCP
            go_wp2_with fail
            refine (HBK.out _).mono ?_
            rintro e w5 ⟨rfl, rfl⟩
            go_wp2_with fail
            obtain ⟨wo, hwo⟩ : ∃ wo : World, wo = wr.alloc (.cells #[.int .i64 5, .int .i64 at_, .int .i64 en, .string nm, .string vl, .slice adc m capc, .bool em] 48) := ⟨_, rfl⟩
            rw [← hwo] at HTB HWO HSC5 ⊢
            obtain ⟨tb, htb⟩ : ∃ tb, wr.heap.size = tb := ⟨_, rfl⟩
            rw [htb] at HTB ⊢
            clear hwo htb hbw
            go_loopw [10, 115] (fun vc vj wq => ∃ (j c : Nat), vc = .int .i64 c ∧ vj = .int .i64 j ∧ j ≤ m ∧ Cs c (ch.drop j) en ∧ Only [] wo wq) (fun _ vj _ => m - (RowKit.intOf vj).toNat)
            case atStart => exact ⟨0, at_, rfl, rfl, Nat.zero_le _, HCS.out, Only.refl _ _⟩
            case round =>
              obtain ⟨j, c, rfl, rfl, hj, hc, hoq⟩ := hrel
              have HOQ := hid hoq
              have t1 : wr.cell? ⟨tb, 2, none⟩ = some (.int .i64 en) := (hoq.blk HTB.out (by simp)).cell 2
              clear hoq
              by_cases hjlt : j < m
              · obtain ⟨y, hyk⟩ := some_at (xs := ch) (i := j) (by rw [HMM.out]; exact hjlt)
                rw [drop_at hyk] at hc
                obtain ⟨hc1, hc2, hc3⟩ := hc
                have HC3 := hid hc3
                have HS9 := hid (show Sl wr adc ch.length (ch.flatMap chc) by rw [HMM.out]; exact HSC5.out.only HOQ.out)
                obtain ⟨b9, off9, rfl, hbl9, g0, g1, g2⟩ := HS9.out.char hyk
                obtain ⟨yr, yf, yt⟩ := y
                simp only at hc1 hc2 hc3 g0 g1 g2 HC3
                have hcf : (yf : Int) = (c : Int) := by omega
                have hct : ¬ (yt : Int) ≤ (c : Int) := by omega
                have hjl : (j : Int) < (m : Int) := by omega
                have hj0 : (0 : Int) ≤ (j : Int) := by omega
                have HJ := hid hjlt
                subst hc1
                clear hjlt hyk hc3 hc2 hbl9 hcf
                go_wp2_with fail
                go_roundw
                case rel => exact ⟨j + 1, yt, rfl, by go_num, HJ.out, HC3.out, HOQ.out.alloc _⟩
                case measure => have := HJ.out; simp [RowKit.intOf]; omega
              · have hjl : ¬ (j : Int) < (m : Int) := by omega
                rw [List.drop_eq_nil_of_le (by rw [HMM.out]; omega)] at hc
                have hce : c = en := hc
                subst hce
                clear hjlt hc
                go_wp2_with fail
                go_roundw
                case rel => exact ⟨i + 1, c, rfl, by go_num, HLT.out, HNEXT.out, HWO.out.trans HOQ.out⟩
                case measure => have := HLT.out; simp [RowKit.intOf]; omega
          · exact absurd (hw.symm.trans hw1) (by decide)
          · exact absurd (hw.symm.trans hw1) (by decide)
        · skip
          rcases hprev with ⟨hw1, -⟩ | ⟨j, y, hjp, hji, hjn, hcy, ⟨hw1, -⟩ | ⟨-, rfl⟩ | ⟨-, rfl⟩⟩
          · exact absurd (hw.symm.trans hw1) (by decide)
          · exact absurd (hw.symm.trans hw1) (by decide)
          all_goals
            have hip : (0 : Int) < (i : Int) := by omega
            have hwj : IntKind.i64.wrap ((i : Int) - 1) = (j : Int) := (IntWalk.i64_in _ (by omega)).trans (by omega)
            have hj0 : (0 : Int) ≤ (j : Int) := by omega
            have hjl : (j : Int) < (nx : Int) := by omega
            have hcy2 := (HCP.out 3 _).trans hcy
            clear hjp hji hjn hw hlt
            go_wp2_with fail
            refine (HBK.out _).mono ?_
            rintro e w5 ⟨rfl, rfl⟩
            go_wp2_with fail
            go_roundw
            case rel => exact ⟨i + 1, en, rfl, by go_num, HLT.out, HNEXT.out, HOK.out.alloc _⟩
            case measure => have := HLT.out; simp [RowKit.intOf]; omega
        · have hgn : ¬ g = ⟨#[]⟩ := by rw [← hg]; exact extract_some hA (by omega)
          have hge := some_empty hgn
          clear hA
          rcases hprev with ⟨hw1, -⟩ | ⟨j, y, hjp, hji, hjn, hcy, ⟨hw1, -⟩ | ⟨-, rfl⟩ | ⟨-, rfl⟩⟩
          · exact absurd (hw.symm.trans hw1) (by decide)
          · exact absurd (hw.symm.trans hw1) (by decide)
          all_goals
            have hip : (0 : Int) < (i : Int) := by omega
            have hwj : IntKind.i64.wrap ((i : Int) - 1) = (j : Int) := (IntWalk.i64_in _ (by omega)).trans (by omega)
            have hj0 : (0 : Int) ≤ (j : Int) := by omega
            have hjl : (j : Int) < (nx : Int) := by omega
            have hcy2 := (HCP.out 2 _).trans hcy
            clear hjp hji hjn hw hlt
            go_wp2_with fail
            refine (HBK.out _).mono ?_
            rintro e w5 ⟨rfl, rfl⟩
            go_wp2_with fail
            go_roundw
            case rel => exact ⟨i + 1, en, rfl, by go_num, HLT.out, HNEXT.out, HOK.out.alloc _⟩
            case measure => have := HLT.out; simp [RowKit.intOf]; omega
      · have hkl : ¬ (i : Int) < (nx : Int) := by omega
        have hin : T.drop i = [] := List.drop_eq_nil_of_le (by have := congrArg List.length HXS.out; rw [List.length_map, HNX.out] at this; omega)
        rw [hin] at hp
        have ha : a = s.size := by rw [← bl_length]; exact hp
        subst ha
        clear hlt hp hin
        go_wp2_with fail
        go_ret
        exact ⟨rfl, HO4.out.trans HOK.out⟩
end Go.Proofs.YthlbbinlkmchjaaDoor
