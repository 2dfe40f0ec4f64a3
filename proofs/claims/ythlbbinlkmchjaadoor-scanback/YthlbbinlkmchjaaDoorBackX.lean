/- ScanBack's walk. -/
import Derived.Test.YthlbbinlkmchjaaDoorValueC
import Derived.Test.YthlbbinlkmchjaaDoorGr
import Derived.Deep.Cut
import Derived.Deep.CutRange
import Derived.BigQuiet
namespace Go.Proofs.YthlbbinlkmchjaaDoor
open Go.RowKit

theorem bl_app (a b : ByteArray) : bl (a ++ b) = bl a ++ bl b := by
  unfold bl
  rw [ByteArray.data_append, Array.toList_append, List.map_append]
def rns (l : List (Int × Int × Int)) : List Nat := l.map fun x => x.1.toNat
/-- what a text that was written is scanned as -/
theorem written_text {l : List (Int × Int × Int)} {bs : List Nat} (h : textM l = some bs) :
    bl (strN bs) = bs ∧ (strN bs).size ≤ 6 * l.length ∧ fl (strN bs) = (0, 0) ∧ (∀ x ∈ l, 0 ≤ x.1) ∧ ((l = [] ∧ tks (strN bs) = []) ∨ (l ≠ [] ∧ ∃ xs, tks (strN bs) = [⟨5, 0, (strN bs).size, [], [], false, xs⟩] ∧ xs.map (·.1) = rns l ∧ Cs 0 xs (strN bs).size)) := by
  unfold textM at h
  split at h
  · rename_i hall
    cases h
    have hr : ∀ x ∈ l, isRune x.1.toNat = true ∧ 0 ≤ x.1 := fun x hx => by
      have := List.all_eq_true.1 hall x hx
      unfold isR at this
      simp at this
      exact ⟨this.2, this.1⟩
    have hrn : ∀ x ∈ rns l, isRune x = true := fun x hx => by
      obtain ⟨y, hy, rfl⟩ := List.mem_map.1 hx
      exact (hr y hy).1
    have hlt : ∀ b ∈ (l.flatMap fun x => tx x.1.toNat), b < 256 := by
      intro b hb
      obtain ⟨x, hx, hbx⟩ := List.mem_flatMap.1 hb
      exact tx_lt (hr x hx).1 b hbx
    have hb := bl_strN _ hlt
    have hb2 : bl (strN (l.flatMap fun x => tx x.1.toNat)) = (rns l).flatMap tx := by rw [hb, rns, List.flatMap_map]
    refine ⟨hb, ?_, ?_, fun x hx => (hr x hx).2, ?_⟩
    · rw [← bl_length, hb]; exact txs_len l
    · rcases Classical.em (l = []) with rfl | hne
      · unfold fl; rw [none_back hb]
      · obtain ⟨xs, h1, -⟩ := text_back hb2 hrn (by simpa [rns] using hne)
        unfold fl; rw [h1]
    · rcases Classical.em (l = []) with rfl | hne
      · refine .inl ⟨rfl, ?_⟩
        unfold tks; rw [none_back hb]
      · obtain ⟨xs, h1, h2, h3⟩ := text_back hb2 hrn (by simpa [rns] using hne)
        exact .inr ⟨hne, xs, by unfold tks; rw [h1], h2, h3⟩
  · cases h
def preS : ByteArray := ⟨#[60, 97, 32, 98, 61, 34]⟩
def sufS : ByteArray := ⟨#[34, 47, 62]⟩
theorem written_value {v : ByteArray} {bs : List Nat} (h : valM (bl v) = some bs) :
    (strN bs).size ≤ 2048 ∧ fl (preS ++ strN bs ++ sufS) = (0, 0) ∧ ∃ a b c, tks (preS ++ strN bs ++ sufS) = [⟨1, 0, 2, [97], [], false, []⟩, ⟨2, 3, a, [98], bl v, false, []⟩, ⟨3, b, c, [], [], true, []⟩] := by
  unfold valM at h
  split at h
  · rename_i hc
    cases h
    obtain ⟨h1, h2⟩ := rs_encs hc.1
    have hlt : ∀ b ∈ (((rs (bl v)).map (·.2)).flatMap wrt), b < 256 := by
      intro b hb
      obtain ⟨x, hx, hbx⟩ := List.mem_flatMap.1 hb
      exact wrt_lt (h2 x hx) b hbx
    have hb := bl_strN _ hlt
    have hsz : (strN (((rs (bl v)).map (·.2)).flatMap wrt)).size ≤ 2048 := by
      rw [← bl_length, hb, List.flatMap_map]
      have := wr2_len (rs (bl v))
      unfold wr2 at this
      have := hc.2
      omega
    have hbl : bl (preS ++ strN (((rs (bl v)).map (·.2)).flatMap wrt) ++ sufS) = [60, 97, 32, 98, 61, 34] ++ ((rs (bl v)).map (·.2)).flatMap wrt ++ [34, 47, 62] := by
      rw [bl_app, bl_app, hb]; rfl
    obtain ⟨a, b, c, hg⟩ := value_back hbl h2 (by rw [List.length_map]; exact hc.2)
    rw [h1] at hg
    exact ⟨hsz, by unfold fl; rw [hg], a, b, c, by unfold tks; rw [hg]⟩
  · cases h

set_option maxRecDepth 100000 in
set_option maxHeartbeats 16000000 in
theorem back_walk (l : List (Int × Int × Int)) (ad : Option Addr) (cap : Nat) (v : ByteArray) (w : World) (hs : Sl w ad l.length (l.flatMap chI)) (hl : l.length ≤ 9223372036854775807) (hv : v.size ≤ 140737488351232) (hT : Tc w) :
    Calls Tryd.prog 6 #[.slice ad l.length cap, .string v] w fun e w' => e = .returned (.bool true) ∧ Only [] w w' := by
  have HT := hid hT
  have h3 := hid hT.tb.size
  have HSH := hid (shown_c hT)
  have HS := hid hs
  obtain ⟨n, hn⟩ : ∃ n, l.length = n := ⟨_, rfl⟩
  have HN := hid hn
  rw [hn] at hl HS ⊢
  clear hT hs hn
  by_cases hbig : 268435456 < n
  · have hb : (268435456 : Int) < (n : Int) := by omega
    clear hbig
    go_enter Tryd.func6, Tryd.ntmps6
    go_wp2_with fail
    go_ret
    exact ⟨rfl, Only.refl _ _⟩
  have hb : ¬ (268435456 : Int) < (n : Int) := by omega
  have hnb : n ≤ 268435456 := by omega
  clear hbig hl
  have HTX := hid (fun W (h : Only [] w W) => text_c (w := W) (ad := ad) (cap := cap) (l := l) (by rw [HN.out]; exact HS.out.only h) (HT.out.only h (by simp)) (by rw [HN.out]; omega))
  rw [HN.out] at HTX
  have HVL := hid (fun W (h : Only [] w W) => valueT_c v W (by omega) (HT.out.only h (by simp)))
  go_enter Tryd.func6, Tryd.ntmps6
  go_wp2_with fail
  refine HSH.out.mono ?_
  rintro e w1 ⟨rfl, ho1⟩
  have HO1 := hid ho1
  clear ho1
  go_wp2_with fail
  refine (HTX.out w1 HO1.out).mono ?_
  rintro e w2 ⟨rfl, ho2⟩
  have HO2 := hid (HO1.out.trans ho2)
  clear ho2
  obtain ⟨sv, ev, hse, hcase⟩ : ∃ (sv : ByteArray) (ev : Int), textV (textM l) = .tuple #[.string sv, .int .i64 ev] ∧ ((ev = 0 ∧ ∃ bs, textM l = some bs ∧ sv = strN bs) ∨ (ev = 1 ∧ sv = ⟨#[]⟩)) := by
    rcases h : textM l with _ | bs
    · exact ⟨_, _, rfl, .inr ⟨rfl, rfl⟩⟩
    · exact ⟨_, _, rfl, .inl ⟨rfl, bs, rfl, rfl⟩⟩
  rw [hse]
  have HCASE := hid hcase
  clear hse hcase
  go_upto_if 27 with fail
  go_cut [7, 8, 9, 10, 11] from 26 to 118 (fun _ _ _ _ _ wx => Only [] w wx)
  case first =>
    rcases HCASE.out with ⟨rfl, bs, hbs, hsv⟩ | ⟨rfl, rfl⟩
    · obtain ⟨-, hsz, hfl, hpos, htks⟩ := written_text hbs
      rw [← hsv] at hsz hfl htks
      rw [HN.out] at hsz
      have HPOS := hid hpos
      have hssz : sv.size ≤ 1610612736 := by omega
      have HFL := hid hfl
      clear hsz hfl hpos hsv hbs
      go_wp2_with fail
      refine (great_c w2).mono ?_
      rintro e w3 ⟨rfl, rfl⟩
      have HM := hid (Blk.new w2 gM.cells.toArray 68 rfl)
      have HO3 := hid (HO2.out.alloc (.cells gM.cells.toArray 68))
      have h3a : 3 ≤ w2.heap.size := Nat.le_trans h3.out HO2.out.size
      go_wp2_with fail
      refine (scanG_c HM.out (by omega) (HT.out.only HO3.out (by simp)) h3a).mono ?_
      rintro e w4 ⟨tv, xs, rfl, htl, -, ho4, htk⟩
      have HO4 : Hid (Only [] w w4) := hid (HO3.out.fresh ho4 (fun i hi hlt => by simp at hi; subst hi; have := HO2.out.size; omega))
      rw [HFL.out]
      obtain ⟨ad2, cap2, rfl, hsl⟩ := htl.sl
      have HTL := hid htl
      have HSL := hid hsl
      have hgd := guard35
      have q1 := neqF 0 0 0 0
      simp only [BEq.rfl, Bool.and_self, Bool.not_true] at q1
      simp only
      rcases htks with ⟨hl0, ht0⟩ | ⟨hl1, ch, ht1, hch, hcs⟩
      · have hn0 : n = 0 := by rw [← HN.out, hl0]; rfl
        have hx0 : xs = [] := by rw [ht0] at htk; simpa using htk
        subst hn0
        subst hx0
        clear htl hsl ho4 htk ht0 hl0
        go_wp2_with fail
        go_meet
        exact HO4.out.alloc _
      · have hn1 : 1 ≤ n := by
          rw [← HN.out]
          rcases l with _ | ⟨y, l⟩
          · exact absurd rfl hl1
          · simp
        have hmin : min (n : Int) 1 = 1 := by omega
        obtain ⟨x, rfl, hx⟩ : ∃ x, xs = [x] ∧ x.1 = ⟨5, 0, sv.size, [], [], false, ch⟩ := by
          rw [ht1] at htk
          rcases xs with _ | ⟨x, _ | ⟨y, xs⟩⟩
          · simp at htk
          · simp at htk; exact ⟨x, rfl, htk⟩
          · simp at htk
        obtain ⟨adc, capc, hcv, hsc⟩ := htl.chs (x := x) (by simp)
        obtain ⟨b, off, rfl, hbl, e0, e1, e2, e3, e4, e5, e6⟩ := Sl.tok (xs := [x]) hsl (i := 0) rfl
        rw [hx] at hcv hsc e0 e1 e2 e6
        rw [hcv] at e5
        simp only [Nat.zero_mul, Nat.add_zero] at e0 e1 e2 e3 e4 e5 e6
        simp only at hcv hsc e0 e1 e2 e6
        have hchn : ch.length = n := by
          have := congrArg List.length hch
          rw [rns, List.length_map, List.length_map, HN.out] at this
          exact this
        rw [hchn] at e5
        have HCHN := hid hchn
        have HCH := hid hch
        have HCS := hid hcs
        have HSC := hid hsc
        have hbw : ¬ b = w4.heap.size := by omega
        have HCP := hid (fun i => cell_past w4 (.cells #[.int .i64 0, .int .i64 0] 35) b i hbl)
        have p0 := (HCP.out _).trans e0
        have p1 := (HCP.out _).trans e1
        have p2 := (HCP.out _).trans e2
        have p5 := (HCP.out _).trans e5
        clear htl hsl ho4 htk ht1 hl1 hch hcs hsc hchn hcv hx hbl e0 e1 e2 e3 e4 e5 e6
        have hlen1 : ([x] : List (Tk × Tm)).length = 1 := rfl
        rw [hlen1]
        go_wp2_with fail
        have HO5 := hid (HO4.out.alloc (.cells #[.int .i64 0, .int .i64 0] 35))
        have HSC5 := hid (HSC.out.only ((Only.refl [] w4).alloc (.cells #[.int .i64 0, .int .i64 0] 35)))
        obtain ⟨W5, hW5⟩ : ∃ W5, w4.alloc (.cells #[.int .i64 0, .int .i64 0] 35) = W5 := ⟨_, rfl⟩
        rw [hW5] at HO5 HSC5 ⊢
        clear hW5 p0 p1 p2 p5
        go_loopw [9, 84] (fun vc vj wq => ∃ (j c : Nat), vc = .int .i64 c ∧ vj = .int .i64 j ∧ j ≤ n ∧ Cs c (ch.drop j) sv.size ∧ Only [] W5 wq) (fun _ vj _ => n - (RowKit.intOf vj).toNat)
        case atStart => exact ⟨0, 0, rfl, rfl, Nat.zero_le _, HCS.out, Only.refl _ _⟩
        case round =>
          obtain ⟨j, c, rfl, rfl, hj, hc, hoq⟩ := hrel
          have HOQ := hid hoq
          clear hoq
          by_cases hjlt : j < n
          · obtain ⟨y, hyk⟩ := some_at (xs := ch) (i := j) (by rw [HCHN.out]; exact hjlt)
            obtain ⟨z, hzk⟩ := some_at (xs := l) (i := j) (by rw [HN.out]; exact hjlt)
            have hyz : (y.1 : Int) = z.1 := by
              have h1 := congrArg (·[j]?) HCH.out
              simp only [rns, List.getElem?_map, hyk, hzk, Option.map_some, Option.some.injEq] at h1
              have := HPOS.out z (List.mem_of_getElem? hzk)
              omega
            have hc' := hc
            rw [show ch.drop j = y :: ch.drop (j + 1) from by
              obtain ⟨hk, rfl⟩ := List.getElem?_eq_some_iff.1 hyk
              exact List.drop_eq_getElem_cons hk] at hc'
            obtain ⟨hc1, hc2, hc3⟩ := hc'
            have HC3 := hid hc3
            have HS9 := hid (show Sl wr adc ch.length (ch.flatMap chc) from HSC5.out.only HOQ.out)
            have HL9 := hid (show Sl wr ad l.length (l.flatMap chI) by rw [HN.out]; exact HS.out.only (HO5.out.trans HOQ.out))
            obtain ⟨b9, off9, rfl, hbl9, g0, g1, g2⟩ := HS9.out.char hyk
            obtain ⟨b8, off8, rfl, hbl8, f0, f1, f2⟩ := HL9.out.charI hzk
            obtain ⟨yr, yf, yt⟩ := y
            obtain ⟨zr, zf, zt⟩ := z
            simp only at hc1 hc2 hc3 g0 g1 g2 HC3 f0 f1 f2 hyz
            subst hc1
            subst hyz
            have hct : ¬ (yt : Int) ≤ (yf : Int) := by omega
            have hjl : (j : Int) < (n : Int) := by omega
            have hj0 : (0 : Int) ≤ (j : Int) := by omega
            have HJ := hid hjlt
            have hb8 : ¬ b8 = wr.heap.size := by omega
            have f0' := (cell_past wr (.cells #[.int .i64 yr, .int .i64 yf, .int .i64 yt] 50) b8 _ hbl8).trans f0
            clear hjlt hyk hzk hc hc3 hc2 hbl9 hbl8
            go_wp2_with fail
            go_quiet (fail)
            go_wp2_with fail
            go_roundw
            case rel => exact ⟨j + 1, yt, rfl, by go_num, HJ.out, HC3.out, (HOQ.out.alloc _).drewN _⟩
            case measure => have := HJ.out; simp [RowKit.intOf]; omega
          · have hjl : ¬ (j : Int) < (n : Int) := by omega
            rw [List.drop_eq_nil_of_le (by rw [HCHN.out]; omega)] at hc
            have hce : c = sv.size := hc
            subst hce
            clear hjlt hc
            go_wp2_with fail
            go_meet
            exact HO5.out.trans HOQ.out
    · go_wp2_with fail
      go_meet
      exact HO2.out
  case rest =>
    have HO := hid hcut
    clear hcut HTX HO1 HO2
    go_wp2_with fail
    refine (HVL.out wc HO.out).mono ?_
    rintro e w3 ⟨rfl, ho3⟩
    have HO3 := hid (HO.out.trans ho3)
    clear ho3
    obtain ⟨wv, ev2, hse, hcase⟩ : ∃ (sv : ByteArray) (ev : Int), textV (valM (bl v)) = .tuple #[.string sv, .int .i64 ev] ∧ ((ev = 0 ∧ ∃ bs, valM (bl v) = some bs ∧ sv = strN bs) ∨ (ev = 1 ∧ sv = ⟨#[]⟩)) := by
      rcases h : valM (bl v) with _ | bs
      · exact ⟨_, _, rfl, .inr ⟨rfl, rfl⟩⟩
      · exact ⟨_, _, rfl, .inl ⟨rfl, bs, rfl, rfl⟩⟩
    rw [hse]
    clear hse
    rcases hcase with ⟨rfl, bs, hbs, hwv⟩ | ⟨rfl, rfl⟩
    · obtain ⟨hsz, hfl, ta, tb, tc, htks⟩ := written_value hbs
      rw [← hwv] at hsz hfl htks
      have HFL := hid hfl
      have HTKS := hid htks
      have hps : (⟨#[60, 97, 32, 98, 61, 34]⟩ : ByteArray) = preS := rfl
      have hsf : (⟨#[34, 47, 62]⟩ : ByteArray) = sufS := rfl
      have hp6 : preS.size = 6 := rfl
      have hs3 : sufS.size = 3 := rfl
      have ha1 : ¬ 9223372036854775807 < preS.size + wv.size := by omega
      have ha2 : ¬ 9223372036854775807 < preS.size + wv.size + sufS.size := by omega
      have ha3 : ¬ 9223372036854775807 < (preS ++ wv).size + sufS.size := by rw [ByteArray.size_append]; omega
      have HSZ2 := hid (show (preS ++ wv ++ sufS).size ≤ 4294967296 by rw [ByteArray.size_append, ByteArray.size_append]; omega)
      clear hfl htks hwv hbs hp6 hs3 hsz
      go_wp2_with fail
      refine (great_c w3).mono ?_
      rintro e w4 ⟨rfl, rfl⟩
      have HM := hid (Blk.new w3 gM.cells.toArray 68 rfl)
      have HO4 := hid (HO3.out.alloc (.cells gM.cells.toArray 68))
      have h3a : 3 ≤ w3.heap.size := Nat.le_trans h3.out HO3.out.size
      go_wp2_with fail
      refine (scanG_c HM.out HSZ2.out (HT.out.only HO4.out (by simp)) h3a).mono ?_
      rintro e w5 ⟨tv, xs, rfl, htl, -, ho5, htk⟩
      have HO5 : Hid (Only [] w w5) := hid (HO4.out.fresh ho5 (fun i hi hlt => by simp at hi; subst hi; have := HO3.out.size; omega))
      rw [HFL.out]
      rw [HTKS.out] at htk
      obtain ⟨x, y, z, rfl, hx, hy, hz⟩ : ∃ x y z, xs = [x, y, z] ∧ x.1 = (⟨1, 0, 2, [97], [], false, []⟩ : Tk) ∧ y.1 = (⟨2, 3, ta, [98], bl v, false, []⟩ : Tk) ∧ z.1 = (⟨3, tb, tc, [], [], true, []⟩ : Tk) := by
        rcases xs with _ | ⟨x, _ | ⟨y, _ | ⟨z, _ | ⟨u, xs⟩⟩⟩⟩
        · simp at htk
        · simp at htk
        · simp at htk
        · simp at htk; exact ⟨x, y, z, rfl, htk⟩
        · simp at htk
      obtain ⟨ad2, cap2, rfl, hsl⟩ := htl.sl
      obtain ⟨b, off, rfl, hbl, -, -, -, -, -, -, -⟩ := Sl.tok (xs := [x, y, z]) hsl (i := 0) rfl
      obtain ⟨b', off', hb', -, e0, -, -, e3, e4, -, -⟩ := Sl.tok (xs := [x, y, z]) hsl (i := 1) rfl
      obtain ⟨rfl, rfl, -⟩ : b = b' ∧ off = off' ∧ True := by simpa using hb'
      obtain ⟨b', off', hb', -, -, -, -, -, -, -, f6⟩ := Sl.tok (xs := [x, y, z]) hsl (i := 2) rfl
      obtain ⟨rfl, rfl, -⟩ : b = b' ∧ off = off' ∧ True := by simpa using hb'
      have hnm : y.2.nm = ⟨#[98]⟩ := bl_inj (by rw [(htl.rel y (by simp)).nm, hy]; rfl)
      have hvl : y.2.vl = v := bl_inj (by rw [(htl.rel y (by simp)).vl, hy])
      rw [hy] at e0
      rw [hnm] at e3
      rw [hvl] at e4
      rw [hz] at f6
      simp only [Nat.one_mul] at e0 e3 e4
      simp only [Nat.reduceMul] at f6
      have HCP := hid (fun i => cell_past w5 (.cells #[.int .i64 0, .int .i64 0] 35) b i hbl)
      have p0 := (HCP.out _).trans e0
      have p3 := (HCP.out _).trans e3
      have p4 := (HCP.out _).trans e4
      have q6 := (HCP.out _).trans f6
      have p3' := p3
      have p4' := p4
      have q6' := q6
      simp only [Nat.add_assoc, Nat.reduceAdd] at p3' p4' q6'
      have hgd := guard35
      have q1 := eqlF 0 0 0 0
      simp only [BEq.rfl, Bool.and_self] at q1
      have hlen3 : ([x, y, z] : List (Tk × Tm)).length = 3 := rfl
      rw [hlen3]
      simp only
      clear htl hsl ho5 htk hx hy hz hb' hnm hvl e0 e3 e4 f6
      go_wp2_with fail
      go_ret
      exact ⟨rfl, HO5.out.alloc _⟩
    · go_wp2_with fail
      go_ret
      exact ⟨rfl, HO3.out⟩
end Go.Proofs.YthlbbinlkmchjaaDoor
