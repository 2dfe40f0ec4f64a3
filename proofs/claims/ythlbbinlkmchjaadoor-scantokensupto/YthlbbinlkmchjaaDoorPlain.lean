/- The cutter's plain: a rune as it is. -/
import Derived.Test.YthlbbinlkmchjaaDoorName
import Derived.Test.YthlbbinlkmchjaaDoorCheck
import Derived.BigQuiet
namespace Go.Proofs.YthlbbinlkmchjaaDoor
open Go.RowKit

theorem Tb.only {L : List Nat} {w w' : World} (h : Tb w) (k : Only L w w') (hL : ∀ i ∈ L, 3 ≤ i) : Tb w' :=
  h.of (k.toBelow h.size hL) (Nat.le_refl _)
theorem Tb.drewN {w : World} (h : Tb w) (n : Nat) : Tb (w.drewN n) := h.only (only_drewN w n) (by simp)
theorem badN_congr {n n' a b c d : Nat} (h0 : n = 0 ↔ n' = 0) (h1 : 1 < n ↔ 1 < n') (h2 : 2 < n ↔ 2 < n') (h3 : 3 < n ↔ 3 < n') : badN n a b c d = badN n' a b c d := by
  unfold badN
  simp only [h0, h1, h2, h3]
theorem bad_take4 (l : List Nat) : bad (l.take 4) = bad l ∧ rune (l.take 4) = rune l ∧ wd (l.take 4) = wd l := by
  have g : ∀ i, i < 4 → (l.take 4).getD i 0 = l.getD i 0 := fun i hi => getD_take (by rw [List.take_take, Nat.min_self]) hi
  unfold bad rune wd
  rw [g 0 (by decide), g 1 (by decide), g 2 (by decide), g 3 (by decide)]
  refine ⟨?_, rfl, rfl⟩
  by_cases hl : l.length < 4
  · rw [List.take_of_length_le (by omega)]
  · have : (l.take 4).length = 4 := by simp; omega
    rw [this]
    exact badN_congr (by omega) (by omega) (by omega) (by omega)
theorem pos_one (l : List Nat) : pos 1 l = if bad l = none then wd l else 0 := by
  unfold pos
  split
  · simp [pos]
  · rfl
theorem chk_bad {l : List Nat} {e : Nat} (h : bad l = some e) (hl : l ≠ []) : chk l = some e := by
  have he : en l = 0 := pos_none (by rw [h]; simp) _
  unfold chk
  rw [he, if_neg (by intro q; exact hl (List.eq_nil_of_length_eq_zero q.symm)), List.drop_zero, h]
  simp
/-- so many right bytes, and one that can't stand -/
theorem fin_steps {α : Type} {m : M} (hw : m.why = 0) (p len k e : Nat) (he : e ≤ len) : fin m p len (.error (k, e) : R α) = match fin m p len (.ok ((), e) : R Unit) with
    | (m1, .ok x) => fin m1 x.2 (len - e) (.error (k, 0) : R α)
    | (m1, .error F) => (m1, .error F) := by
  have hu := used_up len e (Except.error (k, 0) : R α) he
  rw [show (R.up e (Except.error (k, 0) : R α)) = .error (k, e) from rfl] at hu
  rcases hs : m.stepOk (e : Nat) with _ | _
  · rw [fin_no hs]
    obtain ⟨h1, h2⟩ := M.step_over hw (a := e) (b := (used (len - e) (Except.error (k, 0) : R α) : Nat)) (by omega) (by omega) hs
    rw [← Int.natCast_add, ← hu] at h1 h2
    rw [fin_ref rfl h2, h1]
  · rw [fin_yes hs]
    obtain ⟨_, h1, h2⟩ := M.step_add hw (a := e) (b := (used (len - e) (Except.error (k, 0) : R α) : Nat)) (by omega) (by omega) hs
    rw [← Int.natCast_add, ← hu] at h1 h2
    simp only
    rcases hs2 : (m.step (e : Nat)).stepOk (used (len - e) (Except.error (k, 0) : R α) : Nat) with _ | _
    · rw [fin_ref rfl hs2, fin_ref rfl (h2.trans hs2), h1]
    · rw [fin_told rfl hs2, fin_told rfl (h2.trans hs2), h1]
      rfl
theorem field35_1 (a b : Int) (w : World) : (Instr.field 35 (.agg #[.int .i64 a, .int .i64 b]) 1).run Tryd.prog w = .ok (.int .i64 b) w := by kernel_rfl
def evI (x : Nat) (_ : Nat) (z : Value) : Prop := z = .int .i64 x
def ezI (z : Value) : Prop := ∃ i : Int, z = .int .i64 i ∧ 0 ≤ i ∧ i ≤ 1114111

set_option maxRecDepth 100000 in
set_option maxHeartbeats 4000000 in
theorem plain_c {w : World} {cb mb : Nat} {s : ByteArray} {p : Nat} {v : Value} {m : M} (h : Cu w cb mb s p v m) (hT : Tb w) (hp : p < s.size) :
    Calls Tryd.prog 100 #[.pointer (some ⟨cb, 0, none⟩)] w fun e w' => PV evI ezI w' cb mb s v (fo s m p plainP) e ∧ Only [cb, mb] w w' := by
  have HU := hid h
  have HT := hid hT
  have HW := hid h.why
  have hsz := h.sz
  have c1 : w.cell? ⟨cb, 1, none⟩ = some (.string s) := h.c.cell 1
  have c2 : w.cell? ⟨cb, 2, none⟩ = some (.int .i64 p) := h.c.cell 2
  have hp' : (p : Int) < (s.size : Int) := by omega
  have h0' : (0 : Int) ≤ (p : Int) := by omega
  have hsz' : (s.size : Int) ≤ 4294967296 := by omega
  obtain ⟨q, hq⟩ : ∃ q : Nat, q = min (p + 4) s.size := ⟨_, rfl⟩
  have hqI : min ((p : Int) + 4) (s.size : Int) = (q : Int) := by omega
  have hq1 : (p : Int) ≤ (q : Int) := by omega
  have hq2 : (q : Int) ≤ (s.size : Int) := by omega
  obtain ⟨near, hn⟩ : ∃ near, s.extract p q = near := ⟨_, rfl⟩
  have hbn : bl near = (rest s p).take 4 := by
    rw [← hn, bl_extract, hq]
    show ((bl s).drop p).take _ = _
    by_cases h4 : p + 4 ≤ s.size
    · rw [Nat.min_eq_left h4, Nat.add_sub_cancel_left]; rfl
    · rw [Nat.min_eq_right (by omega)]
      show (rest s p).take _ = _
      rw [List.take_of_length_le (by rw [rest_length]; exact Nat.le_refl _), List.take_of_length_le (by rw [rest_length]; omega)]
  have hns : near.size ≤ 4 := by rw [← bl_length, hbn, List.length_take]; omega
  have hne : rest s p ≠ [] := fun e => by have := rest_length s p; rw [e] at this; simp at this; omega
  have hne4 : bl near ≠ [] := by rw [hbn]; intro e; rcases hr : rest s p with _ | ⟨b, t⟩; exact hne hr; rw [hr] at e; cases e
  obtain ⟨b1, b2, b3⟩ := bad_take4 (rest s p)
  rw [← hbn] at b1 b2 b3
  have HN := hid hn
  have HQ := hid hqI
  have HCUT := hid (fun W => cut_any near 1 W (by omega) (by omega) (by omega))
  rcases hb : bad (rest s p) with _ | e
  · rw [hb] at b1
    have hwd := bad_none b1
    have hpos : pos 1 (bl near) = wd (bl near) := by rw [pos_one, b1]; rfl
    rw [show (1 : Int).toNat = 1 from rfl, hpos] at HCUT
    obtain ⟨d, hd⟩ : ∃ d, wd (bl near) = d := ⟨_, rfl⟩
    obtain ⟨ft, hft⟩ : ∃ ft, near.extract 0 d = ft := ⟨_, rfl⟩
    rw [hd] at HCUT hwd b3
    rw [hft] at HCUT
    have hbf : bl ft = (bl near).take d := by rw [← hft, bl_extract]; rfl
    have hfs : ft.size = d := by rw [← bl_length, hbf, List.length_take]; omega
    obtain ⟨g1, g2, g3⟩ := good_pre b1 (m := bl ft) (by rw [hbf, List.take_take, hd, Nat.min_self])
    rw [hd] at g3
    have hdec : Lib.decodeGo ft = (rune (rest s p), d) := by
      unfold Lib.decodeGo
      rw [if_neg (by omega), decode_good (p := 0) (by rw [List.drop_zero]; exact g1), List.drop_zero, g2, b2, g3]
    have HDEC := hid (fun W (h : Lib.Utf8Tabs 1 2 W) => Tryd.utf8_DecodeRuneInString ft W h)
    rw [hdec] at HDEC
    have hfne : ¬ ft = ⟨#[]⟩ := by intro e; rw [e] at hfs; have : (ByteArray.mk #[]).size = 0 := rfl; omega
    have hfne2 : (ft.toList == []) = false := by
      refine beq_eq_false_iff_ne.2 ?_
      intro h
      have h2 := congrArg List.length h
      rw [ByteArray.toList_eq] at h2
      have h3 : ft.data.toList.length = ft.size := by simp
      simp only [List.length_nil] at h2
      omega
    have hrw := rune_width hb
    have hpl : fo s m p plainP = fin m p (s.size - p) (.ok (rune (rest s p), d) : R Nat) := by unfold fo plainP; rw [hb, ← b3]
    have HPL := hid hpl
    have hle : p + d ≤ s.size := by
      have := (bad_none hb).2
      rw [rest_length, ← b3] at this
      omega
    obtain ⟨r, hr⟩ : ∃ r, rune (rest s p) = r := ⟨_, rfl⟩
    rw [hr] at HDEC hrw HPL
    have hr0 : (0 : Int) ≤ (r : Int) := by omega
    have hr1 : (r : Int) ≤ 1114111 := by omega
    have HFSZ := hid hfs
    have hfsI : (ft.size : Int) = (d : Int) := by omega
    clear hpl hb hpos b1 b2 b3 hne4 hbn hne h hT hn hqI hq hdec hr hd hft hbf g1 g2 g3 hwd hrw hfs
    simp only at HDEC
    go_enter Tryd.func100, Tryd.ntmps100
    go_wp2
    go_quiet (fail)
    have hex : s.extract p (min ((p : Int) + 4) (s.size : Int)).toNat = near := by rw [HQ.out, Int.toNat_natCast]; exact HN.out
    go_wp2_with fail
    rw [hex]
    refine (HCUT.out _).mono ?_
    rintro e1 w1 ⟨rfl, hb1⟩
    have HO1 := hid (Only.behind (only_drewN w nq) (Only.ofBelow hb1))
    clear hb1
    go_wp2_with fail
    have hT1 := HT.out.only HO1.out (by simp)
    refine (HDEC.out _ ⟨hT1.first, hT1.range⟩).mono ?_
    rintro e2 w2 ⟨rfl, hb2⟩
    have HO2 := hid (HO1.out.trans (Only.ofBelow hb2))
    clear hb2 hT1
    have HU2 := hid (HU.out.only HO2.out)
    go_wp2_with fail
    refine (steps_c HU2.out d (by omega)).mono ?_
    rintro e3 w3 ⟨hx, ho3⟩
    rcases hs : m.stepOk (d : Nat) with _ | _
    · rw [fin_no hs] at hx
      obtain ⟨rfl, hx⟩ := hx
      have HPP : Hid (fo s m p plainP = (m.step (d : Nat), .error (20, 0))) := HPL.out.trans (fin_no hs)
      clear hs
      go_wp2
      go_ret2
      rw [HPP.out]
      exact ⟨⟨⟨_, rfl, _, rfl, by omega, by omega⟩, hx⟩, (HO2.out.mono (by simp)).trans ho3⟩
    · rw [fin_yes hs] at hx
      obtain ⟨rfl, hx⟩ := hx
      have HPP : Hid (fo s m p plainP = (m.step (d : Nat), .ok (r, p + d))) := HPL.out.trans (fin_yes hs)
      clear hs
      go_wp2
      go_ret2
      rw [HPP.out]
      exact ⟨⟨⟨_, rfl, rfl⟩, hx⟩, (HO2.out.mono (by simp)).trans ho3⟩
  · rw [hb] at b1
    have hpos : pos 1 (bl near) = 0 := by rw [pos_one, b1]; rfl
    rw [show (1 : Int).toNat = 1 from rfl, hpos] at HCUT
    have hfirst : near.extract 0 0 = ⟨#[]⟩ := by simp; rfl
    rw [hfirst] at HCUT
    have hchk := chk_bad b1 hne4
    have HCK := hid (fun W (h : Tb W) => check_any near W (by omega) h)
    rw [hchk] at HCK
    have hle := (bad_le hb).2
    rw [rest_length] at hle
    have HFS := hid (fin_steps (α := Nat) HW.out p (s.size - p) 40 e (by omega))
    have hpl : fo s m p plainP = fin m p (s.size - p) (.error (40, e) : R Nat) := by unfold fo plainP; rw [hb]
    have HPL := hid hpl
    clear hpl hb hpos hchk b1 b2 b3 hne4 hbn hfirst hne h hT hn hqI hq
    unfold told at HCK
    simp only at HCK
    have hfld := field35_1
    go_enter Tryd.func100, Tryd.ntmps100
    go_wp2
    go_quiet (fail)
    have hex : s.extract p (min ((p : Int) + 4) (s.size : Int)).toNat = near := by rw [HQ.out, Int.toNat_natCast]; exact HN.out
    go_wp2_with fail
    rw [hex]
    refine (HCUT.out _).mono ?_
    rintro e1 w1 ⟨rfl, hb1⟩
    have ho1 := Only.behind (only_drewN w nq) (Only.ofBelow hb1)
    have HO1 := hid ho1
    clear ho1 hb1
    go_wp2_with fail
    refine (HCK.out _ (HT.out.only HO1.out (by simp))).mono ?_
    rintro e2 w2 ⟨rfl, hb2⟩
    have HO2 := hid (HO1.out.trans (Only.ofBelow hb2))
    clear hb2
    have HU2 := hid (HU.out.only HO2.out)
    go_wp2_with fail
    refine (steps_c HU2.out e (by omega)).mono ?_
    rintro e3 w3 ⟨hx, ho3⟩
    rcases hr : fin m p (s.size - p) (.ok ((), e) : R Unit) with ⟨m1, F | ⟨x, q1⟩⟩
    · rw [hr] at hx
      have hfin := HFS.out
      rw [hr] at hfin
      simp only at hfin
      have HPP := hid (HPL.out.trans hfin)
      obtain ⟨rfl, hx⟩ := hx
      clear hr hfin
      go_wp2
      go_ret2
      rw [HPP.out]
      exact ⟨⟨⟨_, rfl, 0, rfl, by omega, by omega⟩, hx⟩, (HO2.out.mono (by simp)).trans ho3⟩
    · rw [hr] at hx
      have hfin := HFS.out
      rw [hr] at hfin
      simp only at hfin
      obtain ⟨rfl, hx⟩ := hx
      have hq1 : q1 = p + e := by
        obtain ⟨n', h1, h2, _⟩ := fin_ok HW.out hr
        cases h1; exact h2
      subst hq1
      have HX := hid hx
      have HPP : Hid (fo s m p plainP = (erM s m1 (p + e), .error (erF s m1 (p + e) 40))) := by
        refine HPL.out.trans (hfin.trans ?_)
        rw [Nat.sub_sub]; rfl
      clear hr hfin hx
      go_wp2_with fail
      refine (wrong_x HX.out 40).mono ?_
      rintro e4 w4 ⟨rfl, hx4, ho4⟩
      go_wp2
      go_ret2
      rw [HPP.out]
      exact ⟨⟨⟨_, rfl, 0, rfl, by omega, by omega⟩, hx4⟩, ((HO2.out.mono (by simp)).trans ho3).trans ho4⟩
end Go.Proofs.YthlbbinlkmchjaaDoor
