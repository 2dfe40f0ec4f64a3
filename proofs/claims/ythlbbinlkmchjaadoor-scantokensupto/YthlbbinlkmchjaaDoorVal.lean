/- The cutter's value. -/
import Derived.Test.YthlbbinlkmchjaaDoorRow
import Derived.WalkMore
namespace Go.Proofs.YthlbbinlkmchjaaDoor
open Go.RowKit

theorem rune_isRune {l : List Nat} (h : bad l = none) : isRune (rune l) = true := by
  obtain ⟨_, h1, h2⟩ := rune_width h
  unfold isRune
  simp; omega
theorem then_ok_inv {α β : Type} {p : Pz α} {f : α → Nat → Pz β} {l : List Nat} {b : β} {n : Nat} (h : andThen p f l = .ok (b, n)) : ∃ a k j, p l = .ok (a, k) ∧ f a k (l.drop k) = .ok (b, j) ∧ n = k + j := by
  rcases hr : p l with e | ⟨a, k⟩
  · rw [then_bad hr] at h; cases h
  · rw [then_ok hr] at h
    rcases hf : f a k (l.drop k) with e | ⟨c, j⟩
    · rw [hf] at h; cases h
    · rw [hf] at h; cases h; exact ⟨a, k, j, rfl, hf, rfl⟩
theorem numK_rune : ∀ (r n : Nat) (l : List Nat) (x k : Nat), numK r n l = .ok (x, k) → isRune x = true
  | 0, n, l, x, k, h => by
    unfold numK look at h
    dsimp only at h
    split at h
    · rename_i hc
      obtain ⟨_, _, _, _, h2, _⟩ := then_ok_inv h
      cases h2; exact hc.2
    · cases h
  | r + 1, n, l, x, k, h => by
    unfold numK look at h
    dsimp only at h
    split at h
    · rename_i hc
      obtain ⟨_, _, _, _, h2, _⟩ := then_ok_inv h
      cases h2; exact hc.2.2
    · rcases hd : digO l.head? with _ | d
      · rw [hd] at h; cases h
      · rw [hd] at h
        dsimp only at h
        split at h
        · cases h
        · obtain ⟨_, _, _, _, h2, _⟩ := then_ok_inv h
          exact numK_rune r _ _ _ _ h2
theorem chr_rune {l : List Nat} {x n : Nat} (h : chrP l = .ok (x, n)) : isRune x = true := by
  unfold chrP look at h
  dsimp only at h
  split at h
  · unfold entP at h
    obtain ⟨_, _, _, _, h2, _⟩ := then_ok_inv h
    unfold look at h2
    dsimp only at h2
    generalize hk : (List.drop _ l).head? = hd at h2
    rcases he : entOf hd with _ | e
    · rw [he] at h2
      obtain ⟨_, _, _, _, h3, _⟩ := then_ok_inv h2
      exact numK_rune _ _ _ _ _ h3
    · rw [he] at h2
      obtain ⟨_, _, _, _, h3, _⟩ := then_ok_inv h2
      cases h3
      have := List.mem_of_find?_eq_some he
      simp only [ents, List.mem_cons, List.not_mem_nil, or_false] at this
      rcases this with rfl | rfl | rfl | rfl | rfl | rfl <;> decide
  · unfold plainP at h
    rcases hb : bad l with _ | e
    · rw [hb] at h; cases h; exact rune_isRune hb
    · rw [hb] at h; cases h
def mapO {α β : Type} (g : α → β) (o : O α) : O β := match o with
  | (m, .ok x) => (m, .ok (g x.1, x.2))
  | (m, .error F) => (m, .error F)
theorem mapO_map {α β γ : Type} (g : β → γ) (f : α → β) (o : O α) : mapO g (mapO f o) = mapO (fun x => g (f x)) o := by
  rcases o with ⟨m, F | ⟨x, q⟩⟩ <;> rfl
theorem fo_map {α β : Type} {s : ByteArray} {m : M} (hm : m.Ok) (hw : m.why = 0) {p : Nat} {P : Pz α} (hP : Fair P) (g : α → β) : fo s m p (andThen P fun xs _ => done (g xs)) = mapO g (fo s m p P) := by
  rcases hr : fo s m p P with ⟨m1, F | ⟨x, q⟩⟩
  · rw [fo_then_bad hw hP hr]; rfl
  · rw [fo_then_ok hw hP hr, fo_done (by have := fin_mok (α := α) hm p (s.size - p) (P (rest s p)); rw [show fin m p (s.size - p) (P (rest s p)) = _ from hr] at this; exact this) (by obtain ⟨_, _, _, _, _, h⟩ := fin_ok hw hr; exact h)]
    rfl
theorem val_quote (r : Nat) {l : List Nat} (h : l.head? = some 34) : valK r l = done [] l := by
  rcases r with _ | r <;> unfold valK look <;> dsimp only <;> rw [h, if_pos rfl]
theorem val_end (r : Nat) {l : List Nat} (h : l.head? = none) : valK r l = fails 70 l := by
  rcases r with _ | r <;> unfold valK look <;> dsimp only <;> rw [h] <;> rfl
theorem val_long {l : List Nat} {b : Nat} (h : l.head? = some b) (hb : b ≠ 34) : valK 0 l = fails 72 l := by
  unfold valK look; dsimp only; rw [h, if_neg (by simpa using hb), if_neg (by simp)]
theorem val_tag (r : Nat) {l : List Nat} (h : l.head? = some 60) : valK (r + 1) l = fails 70 l := by
  rw [valK]; unfold look; dsimp only; rw [h, if_neg (by decide), if_pos (.inr rfl)]
theorem val_chr (r : Nat) {l : List Nat} {b : Nat} (h : l.head? = some b) (hb : b ≠ 34) (hc : b ≠ 60) : valK (r + 1) l = andThen chrP (fun x _ => andThen (valK r) fun xs _ => done (x :: xs)) l := by
  rw [valK]; unfold look; dsimp only; rw [h, if_neg (by simpa using hb), if_neg (by simpa using hc)]
def evV (x : List Nat) (_ : Nat) (z : Value) : Prop := ∃ t : ByteArray, z = .string t ∧ bl t = x.flatMap enc
theorem flat_enc_lt {xs : List Nat} (h : ∀ x ∈ xs, isRune x = true) : ∀ b ∈ xs.flatMap enc, b < 256 := by
  intro b hb
  obtain ⟨x, hx, hbx⟩ := List.mem_flatMap.1 hb
  have := h x hx
  unfold isRune at this
  simp at this
  exact enc_lt this.1 b hbx
theorem flat_enc_len (xs : List Nat) : (xs.flatMap enc).length ≤ 4 * xs.length := by
  induction xs with
  | nil => simp
  | cons x xs ih =>
    have := (enc_len x).2
    rw [List.flatMap_cons, List.length_append, List.length_cons]
    omega

set_option maxRecDepth 100000 in
set_option maxHeartbeats 8000000 in
theorem value_c {w : World} {cb mb : Nat} {s : ByteArray} {p : Nat} {v : Value} {m : M} (h : Cu w cb mb s p v m) (hT : Tc w) (h3 : 3 ≤ cb ∧ 3 ≤ mb) :
    Calls Tryd.prog 98 #[.pointer (some ⟨cb, 0, none⟩)] w fun e w' => PV evV ezS w' cb mb s v (fo s m p (valK 256)) e ∧ Only [cb, mb] w w' := by
  obtain ⟨o, ho⟩ : ∃ o : O (List Nat), fo s m p (valK 256) = o := ⟨_, rfl⟩
  rw [ho]
  have HU := hid h
  have HT := hid hT
  have HC := hid h3
  have hl3 : ∀ i ∈ [cb, mb], 3 ≤ i := by simp; exact h3
  have HL3 := hid hl3
  have hst : mapO (fun xs => [] ++ xs) (fo s m p (valK (256 - ([] : List Nat).length))) = o := by
    rw [← ho]
    show mapO (fun xs => xs) (fo s m p (valK 256)) = _
    rcases fo s m p (valK 256) with ⟨m1, F | ⟨x, q⟩⟩ <;> rfl
  have HST := hid hst
  have hlts := h.c.lt
  have hltm := h.mt.lt
  clear h hT h3 hl3 hst
  go_enter Tryd.func98, Tryd.ntmps98
  go_wp2
  go_step3
  go_wp2
  go_step3
  go_wp2
  go_loopw [4, 5] (fun r i wr => ∃ (ys : List Nat) (q : Nat) (m' : M) (rv : Value), r = rv ∧ ys.length ≤ 256 ∧ (∀ y ∈ ys, isRune y = true) ∧ i = .int .i64 ys.length ∧ RB wr w.heap.size rv (ys.flatMap enc) ∧ Cu wr cb mb s q v m' ∧ mapO (fun xs => ys ++ xs) (fo s m' q (valK (256 - ys.length))) = o ∧ Only [cb, mb] w wr) (fun _ i _ => 257 - (RowKit.intOf i).toNat)
  case atStart => exact ⟨[], p, m, _, rfl, by simp, by simp, rfl, World.ownsRow_nil _ _ _ _, HU.out, HST.out, Only.refl _ _⟩
  case round =>
    obtain ⟨ys, q, m', rv, rfl, hk, hys, rfl, hrb, hu, hoo, ho2⟩ := hrel
    have HUK := hid hu
    have HRB := hid hrb
    have HYS := hid hys
    have HOO := hid hoo
    have HOK := hid ho2
    have HTK := hid (HT.out.only ho2 HL3.out)
    obtain ⟨k, hkk⟩ : ∃ k, ys.length = k := ⟨_, rfl⟩
    rw [hkk] at HOO
    have HK := hid hkk
    have hkI : ((ys.length : Nat) : Int) = (k : Int) := by omega
    rw [hkk] at hk
    clear hrb hu hoo ho2 hys hkk
    obtain ⟨b, hb⟩ : ∃ b, (rest s q).head? = b := ⟨_, rfl⟩
    obtain ⟨a, ha⟩ : ∃ a, aheadI b = a := ⟨_, rfl⟩
    have HA := hid (fun W (h : Cu W cb mb s q v m') => (by rw [← ha, ← hb]; exact ahead_any h : Calls Tryd.prog 60 #[.pointer (some ⟨cb, 0, none⟩)] W fun e w' => e = .returned (.int .i64 a) ∧ ∃ n, w' = W.drewN n))
    have HB := hid hb
    have HAB := hid ha
    have ways : (a = 34 ∧ b = some 34) ∨ (¬ a = 34 ∧ a = -1 ∧ b = none) ∨ (¬ a = 34 ∧ ¬ a = -1 ∧ k = 256 ∧ ∃ c, b = some c ∧ c ≠ 34) ∨ (a = 60 ∧ b = some 60 ∧ ¬ k = 256) ∨ (¬ a = 34 ∧ ¬ a = -1 ∧ ¬ a = 60 ∧ ¬ k = 256 ∧ ∃ c, b = some c ∧ c ≠ 34 ∧ c ≠ 60) := by
      rw [← ha]
      rcases b with _ | c
      · right; left; simp [aheadI]
      · simp only [aheadI]
        by_cases h1 : c = 34
        · exact .inl ⟨by omega, by rw [h1]⟩
        · by_cases h2 : k = 256
          · exact .inr (.inr (.inl ⟨by omega, by omega, h2, c, rfl, h1⟩))
          · by_cases h3 : c = 60
            · exact .inr (.inr (.inr (.inl ⟨by omega, by rw [h3], h2⟩)))
            · exact .inr (.inr (.inr (.inr ⟨by omega, by omega, by omega, h2, c, rfl, h1, h3⟩)))
    clear ha hb
    rcases ways with ⟨h34, hb⟩ | ⟨h34, h1, hb⟩ | ⟨h34, h1, hk2, c, hb, hc⟩ | ⟨h60, hb, hk2⟩ | ⟨h34, h1, h60, hk2, c, hb, hc, hc6⟩
    · subst h34
      have hfin : o = (m', .ok (ys, q)) := by
        rw [← HOO.out, show fo s m' q (valK (256 - k)) = fo s m' q (done []) from fo_congr (val_quote _ (HB.out.trans hb)), fo_done HUK.out.ok HUK.out.why]
        simp [mapO]
      have HFIN := hid hfin
      clear hfin hb
      have hcv := fun n => RB.str (w := wr.drewN n) (row_only HRB.out (only_drewN _ n) (by simp)) (flat_enc_lt HYS.out)
      go_wp2_with fail
      refine (HA.out _ HUK.out).mono ?_
      rintro e w1 ⟨rfl, n, rfl⟩
      go_wp2
      rw [Exit.noGoto_ret]
      go_ret2
      rw [HFIN.out]
      exact ⟨⟨⟨_, rfl, _, rfl, bl_strN _ (flat_enc_lt HYS.out)⟩, HUK.out.drewN n⟩, HOK.out.trans ((Only.refl _ _).drewN n)⟩
    · subst h1
      have hfin : o = (erM s m' q, .error (erF s m' q 70)) := by
        rw [← HOO.out, show fo s m' q (valK (256 - k)) = fo s m' q (fails 70) from fo_congr (val_end _ (HB.out.trans hb)), fo_fails]
        rfl
      have HFIN := hid hfin
      clear hfin
      go_wp2_with fail
      refine (HA.out _ HUK.out).mono ?_
      rintro e w1 ⟨rfl, n, rfl⟩
      go_wp2_with fail
      refine (wrong_x (HUK.out.drewN n) 70).mono ?_
      rintro e w1 ⟨rfl, hx, hol⟩
      go_wp2
      rw [Exit.noGoto_ret]
      go_ret2
      rw [HFIN.out]
      exact ⟨⟨⟨_, rfl, rfl⟩, hx⟩, HOK.out.trans (Only.behind (only_drewN _ _) hol)⟩
    · have hne1 : (a != -1) = true := by simpa using h1
      have hkk2 : (k : Int) = 256 := by omega
      have hfin : o = (erM s m' q, .error (erF s m' q 72)) := by
        rw [← HOO.out, show fo s m' q (valK (256 - k)) = fo s m' q (fails 72) from fo_congr (by rw [hk2]; exact val_long (HB.out.trans hb) hc), fo_fails]
        rfl
      have HFIN := hid hfin
      clear hfin
      go_wp2_with fail
      refine (HA.out _ HUK.out).mono ?_
      rintro e w1 ⟨rfl, n, rfl⟩
      go_wp2_with fail
      refine (wrong_x (HUK.out.drewN n) 72).mono ?_
      rintro e w1 ⟨rfl, hx, hol⟩
      go_wp2
      rw [Exit.noGoto_ret]
      go_ret2
      rw [HFIN.out]
      exact ⟨⟨⟨_, rfl, rfl⟩, hx⟩, HOK.out.trans (Only.behind (only_drewN _ _) hol)⟩
    · subst h60
      have hkk2 : ¬ (k : Int) = 256 := by omega
      have hfin : o = (erM s m' q, .error (erF s m' q 70)) := by
        rw [← HOO.out, show fo s m' q (valK (256 - k)) = fo s m' q (fails 70) from fo_congr (by rw [show 256 - k = (255 - k) + 1 by omega]; exact val_tag _ (HB.out.trans hb)), fo_fails]
        rfl
      have HFIN := hid hfin
      clear hfin
      go_wp2_with fail
      refine (HA.out _ HUK.out).mono ?_
      rintro e w1 ⟨rfl, n, rfl⟩
      go_wp2_with fail
      refine (wrong_x (HUK.out.drewN n) 70).mono ?_
      rintro e w1 ⟨rfl, hx, hol⟩
      go_wp2
      rw [Exit.noGoto_ret]
      go_ret2
      rw [HFIN.out]
      exact ⟨⟨⟨_, rfl, rfl⟩, hx⟩, HOK.out.trans (Only.behind (only_drewN _ _) hol)⟩
    · have hkk2 : ¬ (k : Int) = 256 := by omega
      have hne1 : (a != -1) = true := by simpa using h1
      have hkk3 : (k : Int) < 256 := by omega
      have hq1 : (a == -1) = false := by simpa using h1
      have hq2 : (a == 60) = false := by simpa using h60
      have hk256 : 256 - k = (255 - k) + 1 := by omega
      have hp : q < s.size := by
        rcases HUK.out.nil_or with ⟨h, _⟩ | ⟨_, h⟩
        · exact h
        · have := HB.out; rw [h, hb] at this; cases this
      have hvc : fo s m' q (valK (256 - k)) = fo s m' q (andThen chrP (fun x _ => andThen (valK (255 - k)) fun xs _ => done (x :: xs))) := by
        rw [hk256]; exact fo_congr (val_chr _ (HB.out.trans hb) hc hc6)
      have HVC := hid hvc
      clear hvc hb hk256
      have HCH := hid (fun n => character_c (HUK.out.drewN n) (HTK.out.drewN n) HC.out hp)
      rcases hch : fo s m' q chrP with ⟨m1, F | ⟨x, q1⟩⟩
      · have hfin : o = (m1, .error F) := by
          rw [← HOO.out, HVC.out, fo_then_bad HUK.out.why fair_chr hch]; rfl
        have HFIN := hid hfin
        rw [hch] at HCH
        clear hfin hch
        go_wp2_with fail
        refine (HA.out _ HUK.out).mono ?_
        rintro e w1 ⟨rfl, n, rfl⟩
        go_wp2_with fail
        refine (HCH.out n).mono ?_
        rintro e w1 ⟨⟨⟨z, rfl, i, a1, b1, rfl⟩, hx⟩, hol⟩
        unfold chV
        go_wp2
        rw [Exit.noGoto_ret]
        go_ret2
        rw [HFIN.out]
        refine ⟨⟨⟨_, rfl, rfl⟩, ?_⟩, HOK.out.trans ((Only.behind (only_drewN _ _) hol).alloc _)⟩
        obtain ⟨p', v', hcb⟩ := hx.c
        exact ⟨⟨p', v', hcb.alloc _⟩, hx.mt.alloc _, hx.ok⟩
      · have hxr : isRune x = true := by
          obtain ⟨n', h1, _⟩ := fin_ok HUK.out.why hch
          exact chr_rune h1
        have hx2 : x ≤ 1114111 := by unfold isRune at hxr; simp at hxr; exact hxr.1
        have hst2 : mapO (fun xs => (ys ++ [x]) ++ xs) (fo s m1 q1 (valK (256 - (k + 1)))) = o := by
          rw [← HOO.out, HVC.out, fo_then_ok HUK.out.why fair_chr hch]
          have hm1 : m1.Ok ∧ m1.why = 0 := by
            obtain ⟨n', _, _, _, h4, h5⟩ := fin_ok HUK.out.why hch
            exact ⟨by rw [h4]; exact M.step_ok HUK.out.ok _, h5⟩
          rw [fo_map hm1.1 hm1.2 (fair_val _) (fun xs => x :: xs), mapO_map, show 256 - (k + 1) = 255 - k by omega]
          congr 1
          funext xs
          simp
        have HST2 := hid hst2
        have HXR := hid hxr
        rw [hch] at HCH
        have hx0 : (0 : Int) ≤ (x : Int) := by omega
        have hx1 : (x : Int) ≤ 1114111 := by omega
        clear hst2 hch hxr
        go_wp2_with fail
        refine (HA.out _ HUK.out).mono ?_
        rintro e w1 ⟨rfl, n, rfl⟩
        go_wp2_with fail
        refine (HCH.out n).mono ?_
        rintro e w1 ⟨⟨⟨z, rfl, rfl⟩, hx⟩, hol⟩
        have hge := row_ge HRB.out
        have HX := hid (hx.alloc (.cells #[.int .i64 x, .int .i64 q, .int .i64 q1] 50))
        have HRB2 := hid (row_only HRB.out ((Only.behind (only_drewN wr n) hol)) (by
          intro b hb
          have := hge b hb
          simp; omega))
        have HOL := hid (HOK.out.trans ((Only.behind (only_drewN wr n) hol).alloc (.cells #[.int .i64 x, .int .i64 q, .int .i64 q1] 50)))
        have hbl : (ys.flatMap enc).length ≤ 1099511627776 := by have := flat_enc_len ys; have := HK.out; omega
        have HAP := hid (fun W (h : RB W w.heap.size u4 (ys.flatMap enc)) (hB : w.heap.size ≤ W.heap.size) => appendRune_any h HXR.out hbl hB)
        have HGE := hid hge
        clear hx hol hge hbl
        unfold chV
        go_wp2_with fail
        refine (HAP.out _ (row_only HRB2.out ((Only.refl [] w1).alloc _) (by simp)) HOL.out.size).mono ?_
        rintro e w2 ⟨rv2, rfl, hrb2, ob, hg2⟩
        go_wp2
        go_roundw
        case rel =>
          have hl1 : (w1.alloc (.cells #[.int .i64 x, .int .i64 q, .int .i64 q1] 50)).grownBy ((w1.alloc (.cells #[.int .i64 x, .int .i64 q, .int .i64 q1] 50)).alloc ob) u4.ownBlock := World.grownBy_alloc _ _ _
          have hgg := hl1.trans hg2
          have hc1 := HU.out.c.lt
          have hc2 := HU.out.mt.lt
          refine ⟨ys ++ [x], q1, m1, rv2, rfl, ?_, ?_, ?_, ?_, HX.out.grown hgg ?_ ?_, ?_, only_grow HOL.out hgg fun b hb => .inr (HGE.out b hb).1⟩
          · rw [List.length_append, HK.out]; simp; omega
          · intro y hy
            rcases List.mem_append.1 hy with hy | hy
            · exact HYS.out y hy
            · simp at hy; subst hy; exact HXR.out
          · rw [List.length_append, HK.out]; rfl
          · rw [List.flatMap_append, List.flatMap_cons, List.flatMap_nil, List.append_nil]; exact hrb2
          · intro e; have := HGE.out cb e; omega
          · intro e; have := HGE.out mb e; omega
          · rw [List.length_append, HK.out]; exact HST2.out
        case measure => simp [RowKit.intOf]; omega
end Go.Proofs.YthlbbinlkmchjaaDoor
