/- The cutter's tag: three labels. -/
import Derived.Test.YthlbbinlkmchjaaDoorAns
import Derived.WalkMore
namespace Go.Proofs.YthlbbinlkmchjaaDoor
open Go.RowKit

/-- the post of what cuts a part of a markup, all of which is answered so -/
def PM (w0 w' : World) (cb mb : Nat) (s : ByteArray) (p : Nat) (o : A) (e : Ending) : Prop :=
  (e = .returned (.bool true) ∧ ∃ xs q m tv, Sc w0 w' cb mb s q m xs tv ∧ An s m (xs.map (·.1)) 0 q = o ∧ p < q) ∨
  (e = .returned (.bool false) ∧ ∃ m1 F, Cx w' cb mb s m1 F ∧ o = (m1, .error F) ∧ Only [mb] w0 w')
theorem blankI_of (b : Nat) : blankI (b : Int) = isB b := by
  unfold blankI isB
  rw [Bool.eq_iff_iff]
  simp only [decide_eq_true_eq]
  omega
theorem finT_ok {o : O Tk} {m1 : M} {t : Tk} {q : Nat} (h : finT o = (m1, .ok (t, q))) : ∃ m0 t0, o = (m0, .ok (t0, q)) ∧ t.kd = t0.kd := by
  rcases o with ⟨m0, F | ⟨t0, q0⟩⟩
  · cases (Prod.mk.inj h).2
  · rcases hh : m0.holdOk 1 with _ | _
    · rw [finT_no hh] at h; cases (Prod.mk.inj h).2
    · rw [finT_yes hh] at h
      have h2 := (Prod.mk.inj h).2
      injection h2 with h2
      cases h2
      exact ⟨m0, t0, rfl, rfl⟩
theorem open_kd {f : Nat} {l : List Nat} {t : Tk} {n : Nat} (h : openP f l = .ok (t, n)) : t.kd = 1 := by
  obtain ⟨_, _, _, _, h2, _⟩ := then_ok_inv h
  cases h2; rfl
theorem cls_kd {f : Nat} {l : List Nat} {t : Tk} {n : Nat} (h : clsP f l = .ok (t, n)) : t.kd = 4 := by
  obtain ⟨_, _, _, _, h2, _⟩ := then_ok_inv h
  obtain ⟨_, _, _, _, h3, _⟩ := then_ok_inv h2
  obtain ⟨_, _, _, _, h4, _⟩ := then_ok_inv h3
  cases h4; rfl
theorem att_kd {f : Nat} {l : List Nat} {t : Tk} {n : Nat} (h : attP f l = .ok (t, n)) : t.kd = 2 := by
  obtain ⟨_, _, _, _, h2, _⟩ := then_ok_inv h
  obtain ⟨_, _, _, _, h3, _⟩ := then_ok_inv h2
  obtain ⟨_, _, _, _, h4, _⟩ := then_ok_inv h3
  obtain ⟨_, _, _, _, h5, _⟩ := then_ok_inv h4
  cases h5; rfl
theorem end_kd {f : Nat} {l : List Nat} {t : Tk} {n : Nat} (h : endP f l = .ok (t, n)) : t.kd = 3 := by
  unfold endP look at h
  dsimp only at h
  split at h
  · obtain ⟨_, _, _, _, h2, _⟩ := then_ok_inv h
    cases h2; rfl
  · obtain ⟨_, _, _, _, h2, _⟩ := then_ok_inv h
    cases h2; rfl
theorem txt_kd {f : Nat} {l : List Nat} {t : Tk} {n : Nat} (h : txtP f l = .ok (t, n)) : t.kd = 5 := by
  unfold txtP at h
  obtain ⟨_, _, _, _, h2, _⟩ := then_ok_inv h
  cases h2; rfl
/-- what is answered where this part is read next -/
def tokA (s : ByteArray) (m : M) (T : List Tk) (q : Nat) (P : Pz Tk) : A := match finT (fo s m q P) with
  | (m1, .ok x) => An s m1 (T ++ [x.1]) (within x.1) x.2
  | (m1, .error F) => (m1, .error F)
/-- a part that was read: what is answered goes on from there -/
theorem PT.next {w0 w w' : World} {cb mb : Nat} {s : ByteArray} {q : Nat} {m : M} {xs : List (Tk × Tm)} {tv : Value} (hs : Sc w0 w cb mb s q m xs tv) {P : Pz Tk} {e : Ending} (h : PT w0 w' cb mb s xs (finT (fo s m q P)) e) {o : A} (ho : tokA s m (xs.map (·.1)) q P = o) {kd : Nat} (hk : ∀ l t n, P l = .ok (t, n) → t.kd = kd) :
    (e = .returned (.bool true) ∧ ∃ ys q' m' tv', Sc w0 w' cb mb s q' m' ys tv' ∧ An s m' (ys.map (·.1)) (if kd = 1 ∨ kd = 2 then 1 else 0) q' = o ∧ q ≤ q') ∨
    (e = .returned (.bool false) ∧ ∃ m1 F, Cx w' cb mb s m1 F ∧ o = (m1, .error F) ∧ Only [mb] w0 w') := by
  unfold tokA at ho
  rcases hf : finT (fo s m q P) with ⟨m1, F | ⟨t, q'⟩⟩
  · rw [hf] at h ho
    exact .inr ⟨h.1, m1, F, h.2.1, ho.symm, h.2.2⟩
  · rw [hf] at h ho
    obtain ⟨m0, t0, h0, h1⟩ := finT_ok hf
    have hge := fo_ge hs.cu.why h0
    obtain ⟨n, hn, -⟩ := fin_ok hs.cu.why h0
    have hkd := hk _ _ _ hn
    obtain ⟨he, u, tv', hsc⟩ := h
    refine .inl ⟨he, _, _, _, tv', hsc, ?_, hge⟩
    rw [← ho, List.map_append]
    show An s m1 _ _ q' = An s m1 _ (within t) q'
    unfold within
    rw [h1, hkd]
    rfl
/-- inside a tag, at place q -/
structure In (w0 w : World) (cb mb : Nat) (s : ByteArray) (p : Nat) (o : A) (md q : Nat) : Prop where
  ex : ∃ xs m tv, Sc w0 w cb mb s q m xs tv ∧ An s m (xs.map (·.1)) md q = o
  gt : p < q
/-- behind the two bytes that begin a closing tag, the second to be taken -/
structure Ic (w0 w : World) (cb mb : Nat) (s : ByteArray) (p : Nat) (o : A) (q : Nat) : Prop where
  ex : ∃ xs m tv, Sc w0 w cb mb s q m xs tv ∧ tokA s m (xs.map (·.1)) q (clsP p) = o
  gt : p < q
def fr48 (cb fr : Nat) (us : Nat → Value) : Act := { tmps := #[.pointer (some ⟨cb, 0, none⟩), us 1, us 2, .int .i64 fr, us 4, us 5, us 6, us 7, us 8, us 9, us 10, us 11, us 12, us 13, us 14, us 15, us 16, us 17, us 18, us 19, us 20, us 21, us 22, us 23, us 24, us 25, us 26, us 27, us 28, us 29, us 30, us 31, us 32, us 33, us 34, us 35, us 36, us 37, us 38, us 39, us 40, us 41, us 42, us 43, us 44, us 45, us 46, us 47], defers := [] }
theorem ex_fr48 {cb fr : Nat} {a : Act} (h : a = fr48 cb fr fun i => a.tmps.getD i undef) : ∃ us, a = fr48 cb fr us := ⟨_, h⟩
def JJ (w0 : World) (cb mb : Nat) (s : ByteArray) (p : Nat) (o : A) (l : Nat) (a : Act) (w : World) : Prop :=
  (∃ us, a = fr48 cb p us) ∧ ∃ q, (l = 0 ∧ Ic w0 w cb mb s p o q) ∨ (l = 1 ∧ In w0 w cb mb s p o 1 q ∧ ∃ b, (rest s q).head? = some b ∧ isB b = true) ∨ (l = 2 ∧ In w0 w cb mb s p o 1 q)
def sizeJ (s : ByteArray) (cb l : Nat) (w : World) : Nat := 2 * (s.size - (RowKit.intOf ((w.cell? ⟨cb, 2, none⟩).getD (.int .i64 0))).toNat) + (if l = 2 then 1 else 0)
theorem sizeJ_at {s : ByteArray} {cb mb l q : Nat} {w : World} {m : M} {tv : Value} (h : Cu w cb mb s q tv m) : sizeJ s cb l w = 2 * (s.size - q) + (if l = 2 then 1 else 0) := by
  unfold sizeJ
  rw [h.c.cell 2]
  simp [ccells, RowKit.intOf]

set_option maxRecDepth 100000 in
set_option maxHeartbeats 8000000 in
theorem tag_c {w0 w : World} {cb mb : Nat} {s : ByteArray} {p : Nat} {m : M} {xs : List (Tk × Tm)} {tv : Value} (h : Sc w0 w cb mb s p m xs tv) (hhd : (rest s p).head? = some 60) :
    Calls Tryd.prog 61 #[.pointer (some ⟨cb, 0, none⟩)] w fun e w' => PM w0 w' cb mb s p (An s m (xs.map (·.1)) 0 p) e := by
  have HS := hid h
  have HHD := hid hhd
  have c2 : w.cell? ⟨cb, 2, none⟩ = some (.int .i64 p) := h.cu.c.cell 2
  obtain ⟨o, ho⟩ : ∃ o, An s m (xs.map (·.1)) 0 p = o := ⟨_, rfl⟩
  rw [ho]
  have HO := hid ho
  clear h hhd ho
  go_enter Tryd.func61, Tryd.ntmps61
  go_wp2
  refine wp_labels2 (JJ w0 cb mb s p o) (fun l _ w => sizeJ s cb l w) ?again ?start
  case start =>
    intro ag
    have AG := hid ag
    clear ag
    have hp : p < s.size := by
      rcases HS.out.cu.nil_or with ⟨h, _⟩ | ⟨_, h⟩
      · exact h
      · have := HHD.out; rw [h] at this; cases this
    have hw := HS.out.cu.why
    have hpart : part 0 p 60 = some (tagP p) := rfl
    have hap := An_part (s := s) (m := m) (xs.map (·.1)) HHD.out hpart
    rw [HO.out] at hap
    rcases hs1 : m.stepOk 1 with _ | _
    · have hfo : fo s m p (tagP p) = (m.step 1, .error (20, 0)) := by
        refine fo_then_bad hw (fair_word _ _) ?_
        rw [show fo s m p (word 70 [60]) = fo s m p (andThen skip fun _ _ => word 70 []) from fo_congr (word_head HHD.out)]
        exact fo_skip_no hw hp hs1 _
      rw [hfo] at hap
      have HAP : Hid (o = (m.step 1, .error (20, 0))) := hap
      have HST := hid (step_no HS.out.cu hp hs1)
      clear hap hfo hs1 hw hpart
      go_wp2_with fail
      refine HST.out.mono ?_
      rintro e w1 ⟨rfl, hx, hol⟩
      go_wp2
      rw [jumps_ret]
      go_ret
      exact .inr ⟨rfl, _, _, hx, HAP.out, HS.out.off hol⟩
    · have hwd : fo s m p (word 70 [60]) = (m.step 1, .ok ((), p + 1)) := by
        rw [show fo s m p (word 70 [60]) = fo s m p (andThen skip fun _ _ => word 70 []) from fo_congr (word_head HHD.out), fo_skip_yes hw hp hs1]
        exact fo_done (M.step_ok HS.out.cu.ok 1) (M.step_add hw (b := 0) (by decide) (by decide) hs1).1 _ _
      have hfo : fo s m p (tagP p) = fo s (m.step 1) (p + 1) (if (rest s (p + 1)).head? = some 47 then clsP p else openP p) := by
        refine (fo_then_ok hw (fair_word _ _) hwd).trans ?_
        rw [fo_look]
        rfl
      rw [hfo] at hap
      have HST := hid (step_yes HS.out.cu hp hs1)
      have HAP : Hid (tokA s (m.step 1) (xs.map (·.1)) (p + 1) (if (rest s (p + 1)).head? = some 47 then clsP p else openP p) = o) := hap.symm
      clear hap hfo hwd hs1 hw hpart
      go_wp2_with fail
      refine HST.out.mono ?_
      rintro e w1 ⟨rfl, hx, hol⟩
      have HS1 := hid (HS.out.on hx hol (Nat.le_succ p))
      obtain ⟨b, hb⟩ : ∃ b, (rest s (p + 1)).head? = b := ⟨_, rfl⟩
      obtain ⟨a, ha⟩ : ∃ a, aheadI b = a := ⟨_, rfl⟩
      have HA := hid (ahead_any hx)
      rw [hb, ha] at HA
      rw [hb] at HAP
      by_cases h47 : a = 47
      · subst h47
        have hb47 : b = some 47 := by
          rcases b with _ | c
          · simp [aheadI] at ha
          · simp only [aheadI] at ha; congr 1; omega
        rw [if_pos hb47] at HAP
        clear hx hol ha hb hb47
        go_wp2_with fail
        refine HA.out.mono ?_
        rintro e w2 ⟨rfl, n, rfl⟩
        go_wp2
        go_step3
        show JJ w0 cb mb s p o 0 _ _
        exact ⟨ex_fr48 rfl, p + 1, .inl ⟨rfl, ⟨_, _, _, HS1.out.still (only_drewN w1 n), HAP.out⟩, Nat.lt_succ_self p⟩⟩
      · have hb47 : ¬ b = some 47 := by
          intro e; rw [e] at ha; simp only [aheadI] at ha; exact h47 (by omega)
        rw [if_neg hb47] at HAP
        have e47 : (a == 47) = false := by simpa using h47
        clear hx hol ha hb hb47
        go_wp2_with fail
        refine HA.out.mono ?_
        rintro e w2 ⟨rfl, n, rfl⟩
        have HS2 := hid (HS1.out.still (only_drewN w1 n))
        have HOP := hid (opening_c HS2.out p)
        go_wp2_with fail
        refine HOP.out.mono ?_
        rintro e w3 hp3
        rcases PT.next HS2.out hp3 HAP.out (kd := 1) (fun _ _ _ h => open_kd h) with ⟨rfl, ys, q', m2, tv2, h1, h2, h3⟩ | ⟨rfl, m1, F, h1, h2, h3⟩
        · have H1 := hid h1
          have H2 := hid h2
          have H3 := hid h3
          clear h1 h2 h3 hp3
          go_wp2
          go_step3
          have HS' := H1
          have hs := H1.out
          have ho' : An s m2 (ys.map (·.1)) 1 q' = o := H2.out
          have hgt : p < q' := by have := H3.out; omega
          clear H1 H2 HAP HOP HA HS1 HS2 e47 h47
          obtain ⟨b, hb⟩ : ∃ b, (rest s q').head? = b := ⟨_, rfl⟩
          obtain ⟨a, ha⟩ : ∃ a, aheadI b = a := ⟨_, rfl⟩
          have HA := hid (ahead_any hs.cu)
          rw [hb, ha] at HA
          have HBL := hid (fun W => blank_any a W)
          have HB := hid hb
          have HO' := hid ho'
          have ways : (blankI a = true ∧ ∃ c, b = some c ∧ isB c = true) ∨ (blankI a = false ∧ (a = 47 ∨ ¬ a = 47 ∧ a = 62) ∧ tokA s m2 (ys.map (·.1)) q' (endP q') = o) ∨ (blankI a = false ∧ ¬ a = 47 ∧ ¬ a = 62 ∧ tokA s m2 (ys.map (·.1)) q' (fails 70) = o) ∨ (blankI a = false ∧ ¬ a = 47 ∧ ¬ a = 62 ∧ b = none) := by
            rw [← ha]
            rcases b with _ | c
            · exact .inr (.inr (.inr ⟨by decide, by decide, by decide, rfl⟩))
            · simp only [aheadI]
              rw [blankI_of]
              rcases hbc : isB c with _ | _
              · by_cases h47 : c = 47 ∨ c = 62
                · refine .inr (.inl ⟨rfl, by omega, ?_⟩)
                  rw [← ho', An_part _ hb (P := endP q') (by unfold part; rw [if_neg (by omega), hbc, if_neg (by decide), if_pos h47])]
                  rfl
                · refine .inr (.inr (.inl ⟨rfl, by omega, by omega, ?_⟩))
                  rw [← ho', An_part _ hb (P := fails 70) (by unfold part; rw [if_neg (by omega), hbc, if_neg (by decide), if_neg h47, if_neg (by simp)])]
                  rfl
              · exact .inl ⟨rfl, c, rfl, hbc⟩
          clear hs ho' ha hb
          rcases ways with ⟨hbl, c, hc, hcb⟩ | ⟨hbl, hways, hot⟩ | ⟨hbl, h47, h62, hot⟩ | ⟨hbl, h47, h62, hn⟩
          · rw [hbl] at HBL
            clear hbl
            go_wp2_with fail
            refine HA.out.mono ?_
            rintro e w1 ⟨rfl, n, rfl⟩
            go_wp2_with fail
            refine (HBL.out _).mono ?_
            rintro e w1 ⟨rfl, rfl⟩
            go_wp2
            go_step3
            have hs2 := HS'.out.still (only_drewN w3 n)
            show JJ w0 cb mb s p o 1 _ _
            exact ⟨ex_fr48 rfl, q', .inr (.inl ⟨rfl, ⟨⟨_, _, _, hs2, HO'.out⟩, hgt⟩, c, HB.out.trans hc, hcb⟩)⟩
          · rw [hbl] at HBL
            have HOT := hid hot
            clear hbl hot
            rcases hways with h | ⟨h, h'⟩
            · subst h
              go_wp2_with fail
              refine HA.out.mono ?_
              rintro e w1 ⟨rfl, n, rfl⟩
              go_wp2_with fail
              refine (HBL.out _).mono ?_
              rintro e w1 ⟨rfl, rfl⟩
              have HS2 := hid (HS'.out.still (only_drewN w3 n))
              have HEN := hid (ending_c HS2.out)
              go_wp2_with fail
              refine HEN.out.mono ?_
              rintro e w3 hp
              rcases PT.next HS2.out hp HOT.out (kd := 3) (fun _ _ _ h => end_kd h) with ⟨rfl, zs, q3, m3, tv3, h1, h2, h3⟩ | ⟨rfl, m1, F, h1, h2, h3⟩
              · go_wp2
                rw [jumps_ret]
                go_ret
                exact .inl ⟨rfl, zs, q3, m3, tv3, h1, h2, by omega⟩
              · go_wp2
                rw [jumps_ret]
                go_ret
                exact .inr ⟨rfl, m1, F, h1, h2, h3⟩
            · subst h'
              go_wp2_with fail
              refine HA.out.mono ?_
              rintro e w1 ⟨rfl, n, rfl⟩
              go_wp2_with fail
              refine (HBL.out _).mono ?_
              rintro e w1 ⟨rfl, rfl⟩
              have HS2 := hid (HS'.out.still (only_drewN w3 n))
              have HEN := hid (ending_c HS2.out)
              go_wp2_with fail
              refine HEN.out.mono ?_
              rintro e w3 hp
              rcases PT.next HS2.out hp HOT.out (kd := 3) (fun _ _ _ h => end_kd h) with ⟨rfl, zs, q3, m3, tv3, h1, h2, h3⟩ | ⟨rfl, m1, F, h1, h2, h3⟩
              · go_wp2
                rw [jumps_ret]
                go_ret
                exact .inl ⟨rfl, zs, q3, m3, tv3, h1, h2, by omega⟩
              · go_wp2
                rw [jumps_ret]
                go_ret
                exact .inr ⟨rfl, m1, F, h1, h2, h3⟩
          · rw [hbl] at HBL
            have hot2 : o = (erM s m2 q', .error (erF s m2 q' 70)) := by rw [← hot]; rfl
            have HOT := hid hot2
            have e47 : (a == 47) = false := by simpa using h47
            have e62 : (a == 62) = false := by simpa using h62
            clear hbl hot hot2
            go_wp2_with fail
            refine HA.out.mono ?_
            rintro e w1 ⟨rfl, n, rfl⟩
            go_wp2_with fail
            refine (HBL.out _).mono ?_
            rintro e w1 ⟨rfl, rfl⟩
            have HS2 := hid (HS'.out.still (only_drewN w3 n))
            have HWR := hid (wrong_x HS2.out.cu 70)
            go_wp2_with fail
            refine HWR.out.mono ?_
            rintro e w3 ⟨rfl, hx, hol⟩
            go_wp2
            rw [jumps_ret]
            go_ret
            exact .inr ⟨rfl, _, _, hx, HOT.out, HS2.out.off hol⟩
          · rw [hbl] at HBL
            have hqs : ¬ q' < s.size := fun h => by
              rcases HS'.out.cu.nil_or with ⟨_, b, _, h2, _⟩ | ⟨h2, _⟩
              · rw [HB.out, hn] at h2; cases h2
              · omega
            have hot2 : o = (erM s m2 q', .error (erF s m2 q' 70)) := by
              rw [← HO'.out]
              unfold An
              rw [GS_nil1 0 (HB.out.trans hn)]
              unfold erM erF
              simp only [ans]
              rw [show (if q' < s.size then q' + 1 else q') - q' = (if 0 < s.size - q' then 1 else 0) by split <;> split <;> omega]
            have HOT := hid hot2
            have e47 : (a == 47) = false := by simpa using h47
            have e62 : (a == 62) = false := by simpa using h62
            clear hbl hot2
            go_wp2_with fail
            refine HA.out.mono ?_
            rintro e w1 ⟨rfl, n, rfl⟩
            go_wp2_with fail
            refine (HBL.out _).mono ?_
            rintro e w1 ⟨rfl, rfl⟩
            have HS2 := hid (HS'.out.still (only_drewN w3 n))
            have HWR := hid (wrong_x HS2.out.cu 70)
            go_wp2_with fail
            refine HWR.out.mono ?_
            rintro e w3 ⟨rfl, hx, hol⟩
            go_wp2
            rw [jumps_ret]
            go_ret
            exact .inr ⟨rfl, _, _, hx, HOT.out, HS2.out.off hol⟩
        · go_wp2
          rw [jumps_ret]
          go_ret
          exact .inr ⟨rfl, m1, F, h1, h2, h3⟩
  case again =>
    intro l a w' hJ
    obtain ⟨⟨us, rfl⟩, q, ⟨rfl, hin⟩ | ⟨rfl, hin, b, hb, hbb⟩ | ⟨rfl, hin⟩⟩ := hJ
    · refine ⟨_, rfl, ?_⟩
      obtain ⟨⟨xs', m', tv', hs, ho'⟩, hgt⟩ := hin
      have HC := hid (closing_c hs p)
      have HS' := hid hs
      have HO' := hid ho'
      clear hs ho'
      unfold fr48
      go_wp2_with fail
      refine HC.out.mono ?_
      rintro e w1 hp
      rcases PT.next HS'.out hp HO'.out (kd := 4) (fun _ _ _ h => cls_kd h) with ⟨rfl, ys, q', m2, tv2, h1, h2, h3⟩ | ⟨rfl, m1, F, h1, h2, h3⟩
      · go_wp2
        rw [jumps_ret]
        go_ret
        exact .inl ⟨rfl, ys, q', m2, tv2, h1, h2, by omega⟩
      · go_wp2
        rw [jumps_ret]
        go_ret
        exact .inr ⟨rfl, m1, F, h1, h2, h3⟩
    · refine ⟨_, rfl, ?_⟩
      obtain ⟨⟨xs', m', tv', hs, ho'⟩, hgt⟩ := hin
      have HS' := hid hs
      have hp : q < s.size := by
        rcases hs.cu.nil_or with ⟨h, _⟩ | ⟨_, h⟩
        · exact h
        · rw [h] at hb; cases hb
      have hpart : part 1 q b = none := by unfold part; rw [if_neg (by omega), if_pos hbb]
      have hsk := An_skip hs.cu.why (xs'.map (·.1)) hb hpart
      rw [ho'] at hsk
      rcases hs1 : m'.stepOk 1 with _ | _
      · rw [hs1, if_neg (by decide)] at hsk
        have HST := hid (step_no hs.cu hp hs1)
        have HSK := hid hsk
        clear hs ho' hb hbb hpart hsk hs1
        unfold fr48
        go_wp2_with fail
        refine HST.out.mono ?_
        rintro e w1 ⟨rfl, hx, hol⟩
        go_wp2
        rw [jumps_ret]
        go_ret
        exact .inr ⟨rfl, _, _, hx, HSK.out, HS'.out.off hol⟩
      · rw [hs1, if_pos rfl] at hsk
        have HST := hid (step_yes hs.cu hp hs1)
        have HSK := hid hsk
        have HSZ : Hid (sizeJ s cb 1 w' = 2 * (s.size - q)) := sizeJ_at hs.cu
        clear hs ho' hb hbb hpart hsk hs1
        unfold fr48
        go_wp2_with fail
        refine HST.out.mono ?_
        rintro e w1 ⟨rfl, hx, hol⟩
        have HS1 := hid (HS'.out.on hx hol (Nat.le_succ q))
        obtain ⟨a, ha⟩ : ∃ a, aheadI (rest s (q + 1)).head? = a := ⟨_, rfl⟩
        have HA := hid (ahead_any hx)
        rw [ha] at HA
        have HL := hid (letter_any a)
        have hli : lettI a = isLo (rest s (q + 1)).head? := by rw [← ha]; exact lettI_ahead _
        clear hx hol ha
        rcases hl : isLo (rest s (q + 1)).head? with _ | _
        · rw [hl] at hli
          have HLL := hid (fun W => (hli ▸ HL.out W : Calls Tryd.prog 85 #[.int .i64 a] W fun e w' => e = .returned (.bool false) ∧ w' = W))
          have HO2 : Hid (An s (m'.step 1) (xs'.map (·.1)) 1 (q + 1) = o) := by
            have := HSK.out
            unfold An at this
            rw [GS_two hl] at this
            exact this.symm
          clear hl hli HL
          go_wp2_with fail
          refine HA.out.mono ?_
          rintro e w2 ⟨rfl, n, rfl⟩
          go_wp2_with fail
          refine (HLL.out _).mono ?_
          rintro e w2 ⟨rfl, rfl⟩
          go_wp2
          go_step3
          have hs2 := HS1.out.still (only_drewN w1 n)
          show JJ w0 cb mb s p o 2 _ _ ∧ sizeJ s cb 2 _ < sizeJ s cb 1 w'
          refine ⟨⟨ex_fr48 rfl, q + 1, .inr (.inr ⟨rfl, ⟨_, _, _, hs2, HO2.out⟩, by omega⟩)⟩, ?_⟩
          rw [HSZ.out, sizeJ_at hs2.cu]
          simp only [if_true]
          omega
        · rw [hl] at hli
          have HLL := hid (fun W => (hli ▸ HL.out W : Calls Tryd.prog 85 #[.int .i64 a] W fun e w' => e = .returned (.bool true) ∧ w' = W))
          have hb2 : ∃ b2, (rest s (q + 1)).head? = some b2 ∧ isL b2 = true := by
            rcases hh : (rest s (q + 1)).head? with _ | b2
            · rw [hh] at hl; cases hl
            · rw [hh] at hl; exact ⟨b2, rfl, hl⟩
          obtain ⟨b2, hb2, hl2⟩ := hb2
          have hpart2 : part 2 (q + 1) b2 = some (attP (q + 1)) := by
            unfold isL at hl2
            have := of_decide_eq_true hl2
            have h1 : isB b2 = false := by unfold isB; simp; omega
            unfold part
            rw [if_neg (by omega), h1, if_neg (by decide), if_neg (by omega), if_pos ⟨rfl, hl2⟩]
          have HO2 : Hid (tokA s (m'.step 1) (xs'.map (·.1)) (q + 1) (attP (q + 1)) = o) := by
            rw [HSK.out, An_part _ hb2 hpart2]
            rfl
          clear hl hli HL hb2 hl2 hpart2
          go_wp2_with fail
          refine HA.out.mono ?_
          rintro e w2 ⟨rfl, n, rfl⟩
          go_wp2_with fail
          refine (HLL.out _).mono ?_
          rintro e w2 ⟨rfl, rfl⟩
          have HS2 := hid (HS1.out.still (only_drewN w1 n))
          have HAT := hid (attribute_c HS2.out)
          go_wp2_with fail
          refine HAT.out.mono ?_
          rintro e w3 hp
          rcases PT.next HS2.out hp HO2.out (kd := 2) (fun _ _ _ h => att_kd h) with ⟨rfl, ys, q', m2, tv2, h1, h2, h3⟩ | ⟨rfl, m1, F, h1, h2, h3⟩
          · have H1 := hid h1
            have H2 := hid h2
            have H3 := hid h3
            clear h1 h2 h3 hp
            go_wp2
            go_step3
            show JJ w0 cb mb s p o 2 _ _ ∧ sizeJ s cb 2 _ < sizeJ s cb 1 w'
            refine ⟨⟨ex_fr48 rfl, q', .inr (.inr ⟨rfl, ⟨_, _, _, H1.out, H2.out⟩, by have := H3.out; omega⟩)⟩, ?_⟩
            rw [HSZ.out, sizeJ_at H1.out.cu]
            have := H3.out
            simp only [if_true]
            omega
          · go_wp2
            rw [jumps_ret]
            go_ret
            exact .inr ⟨rfl, m1, F, h1, h2, h3⟩
    · refine ⟨_, rfl, ?_⟩
      obtain ⟨⟨xs', m', tv', hs, ho'⟩, hgt⟩ := hin
      have HS' := hid hs
      obtain ⟨b, hb⟩ : ∃ b, (rest s q).head? = b := ⟨_, rfl⟩
      obtain ⟨a, ha⟩ : ∃ a, aheadI b = a := ⟨_, rfl⟩
      have HA := hid (ahead_any hs.cu)
      rw [hb, ha] at HA
      have HBL := hid (fun W => blank_any a W)
      have HSZ : Hid (sizeJ s cb 2 w' = 2 * (s.size - q) + 1) := sizeJ_at hs.cu
      have HB := hid hb
      have HO' := hid ho'
      have ways : (blankI a = true ∧ ∃ c, b = some c ∧ isB c = true) ∨ (blankI a = false ∧ (a = 47 ∨ ¬ a = 47 ∧ a = 62) ∧ tokA s m' (xs'.map (·.1)) q (endP q) = o) ∨ (blankI a = false ∧ ¬ a = 47 ∧ ¬ a = 62 ∧ tokA s m' (xs'.map (·.1)) q (fails 70) = o) ∨ (blankI a = false ∧ ¬ a = 47 ∧ ¬ a = 62 ∧ b = none) := by
        rw [← ha]
        rcases b with _ | c
        · exact .inr (.inr (.inr ⟨by decide, by decide, by decide, rfl⟩))
        · simp only [aheadI]
          rw [blankI_of]
          rcases hbc : isB c with _ | _
          · by_cases h47 : c = 47 ∨ c = 62
            · refine .inr (.inl ⟨rfl, by omega, ?_⟩)
              rw [← ho', An_part _ hb (P := endP q) (by unfold part; rw [if_neg (by omega), hbc, if_neg (by decide), if_pos h47])]
              rfl
            · refine .inr (.inr (.inl ⟨rfl, by omega, by omega, ?_⟩))
              rw [← ho', An_part _ hb (P := fails 70) (by unfold part; rw [if_neg (by omega), hbc, if_neg (by decide), if_neg h47, if_neg (by simp)])]
              rfl
          · exact .inl ⟨rfl, c, rfl, hbc⟩
      clear hs ho' ha hb
      rcases ways with ⟨hbl, c, hc, hcb⟩ | ⟨hbl, hways, hot⟩ | ⟨hbl, h47, h62, hot⟩ | ⟨hbl, h47, h62, hn⟩
      · rw [hbl] at HBL
        clear hbl
        unfold fr48
        go_wp2_with fail
        refine HA.out.mono ?_
        rintro e w1 ⟨rfl, n, rfl⟩
        go_wp2_with fail
        refine (HBL.out _).mono ?_
        rintro e w1 ⟨rfl, rfl⟩
        go_wp2
        go_step3
        have hs2 := HS'.out.still (only_drewN w' n)
        show JJ w0 cb mb s p o 1 _ _ ∧ sizeJ s cb 1 _ < sizeJ s cb 2 w'
        refine ⟨⟨ex_fr48 rfl, q, .inr (.inl ⟨rfl, ⟨⟨_, _, _, hs2, HO'.out⟩, hgt⟩, c, HB.out.trans hc, hcb⟩)⟩, ?_⟩
        rw [HSZ.out, sizeJ_at hs2.cu]
        simp
      · rw [hbl] at HBL
        have HOT := hid hot
        clear hbl hot
        rcases hways with h | ⟨h, h'⟩
        · subst h
          unfold fr48
          go_wp2_with fail
          refine HA.out.mono ?_
          rintro e w1 ⟨rfl, n, rfl⟩
          go_wp2_with fail
          refine (HBL.out _).mono ?_
          rintro e w1 ⟨rfl, rfl⟩
          have HS2 := hid (HS'.out.still (only_drewN w' n))
          have HEN := hid (ending_c HS2.out)
          go_wp2_with fail
          refine HEN.out.mono ?_
          rintro e w3 hp
          rcases PT.next HS2.out hp HOT.out (kd := 3) (fun _ _ _ h => end_kd h) with ⟨rfl, ys, q', m2, tv2, h1, h2, h3⟩ | ⟨rfl, m1, F, h1, h2, h3⟩
          · go_wp2
            rw [jumps_ret]
            go_ret
            exact .inl ⟨rfl, ys, q', m2, tv2, h1, h2, by omega⟩
          · go_wp2
            rw [jumps_ret]
            go_ret
            exact .inr ⟨rfl, m1, F, h1, h2, h3⟩
        · subst h'
          unfold fr48
          go_wp2_with fail
          refine HA.out.mono ?_
          rintro e w1 ⟨rfl, n, rfl⟩
          go_wp2_with fail
          refine (HBL.out _).mono ?_
          rintro e w1 ⟨rfl, rfl⟩
          have HS2 := hid (HS'.out.still (only_drewN w' n))
          have HEN := hid (ending_c HS2.out)
          go_wp2_with fail
          refine HEN.out.mono ?_
          rintro e w3 hp
          rcases PT.next HS2.out hp HOT.out (kd := 3) (fun _ _ _ h => end_kd h) with ⟨rfl, ys, q', m2, tv2, h1, h2, h3⟩ | ⟨rfl, m1, F, h1, h2, h3⟩
          · go_wp2
            rw [jumps_ret]
            go_ret
            exact .inl ⟨rfl, ys, q', m2, tv2, h1, h2, by omega⟩
          · go_wp2
            rw [jumps_ret]
            go_ret
            exact .inr ⟨rfl, m1, F, h1, h2, h3⟩
      · rw [hbl] at HBL
        have hot2 : o = (erM s m' q, .error (erF s m' q 70)) := by rw [← hot]; rfl
        have HOT := hid hot2
        have e47 : (a == 47) = false := by simpa using h47
        have e62 : (a == 62) = false := by simpa using h62
        clear hbl hot hot2
        unfold fr48
        go_wp2_with fail
        refine HA.out.mono ?_
        rintro e w1 ⟨rfl, n, rfl⟩
        go_wp2_with fail
        refine (HBL.out _).mono ?_
        rintro e w1 ⟨rfl, rfl⟩
        have HS2 := hid (HS'.out.still (only_drewN w' n))
        have HWR := hid (wrong_x HS2.out.cu 70)
        go_wp2_with fail
        refine HWR.out.mono ?_
        rintro e w3 ⟨rfl, hx, hol⟩
        go_wp2
        rw [jumps_ret]
        go_ret
        exact .inr ⟨rfl, _, _, hx, HOT.out, HS2.out.off hol⟩
      · rw [hbl] at HBL
        have hqs : ¬ q < s.size := fun h => by
          rcases HS'.out.cu.nil_or with ⟨_, b, _, h2, _⟩ | ⟨h2, _⟩
          · rw [HB.out, hn] at h2; cases h2
          · omega
        have hot2 : o = (erM s m' q, .error (erF s m' q 70)) := by
          rw [← HO'.out]
          unfold An
          rw [GS_nil1 0 (HB.out.trans hn)]
          unfold erM erF
          simp only [ans]
          rw [show (if q < s.size then q + 1 else q) - q = (if 0 < s.size - q then 1 else 0) by split <;> split <;> omega]
        have HOT := hid hot2
        have e47 : (a == 47) = false := by simpa using h47
        have e62 : (a == 62) = false := by simpa using h62
        clear hbl hot2
        unfold fr48
        go_wp2_with fail
        refine HA.out.mono ?_
        rintro e w1 ⟨rfl, n, rfl⟩
        go_wp2_with fail
        refine (HBL.out _).mono ?_
        rintro e w1 ⟨rfl, rfl⟩
        have HS2 := hid (HS'.out.still (only_drewN w' n))
        have HWR := hid (wrong_x HS2.out.cu 70)
        go_wp2_with fail
        refine HWR.out.mono ?_
        rintro e w3 ⟨rfl, hx, hol⟩
        go_wp2
        rw [jumps_ret]
        go_ret
        exact .inr ⟨rfl, _, _, hx, HOT.out, HS2.out.off hol⟩
end Go.Proofs.YthlbbinlkmchjaaDoor
