/- The cutter's steps, word, name. -/
import Derived.Test.YthlbbinlkmchjaaDoorStep
namespace Go.Proofs.YthlbbinlkmchjaaDoor
open Go.RowKit

theorem step_yes {w : World} {cb mb : Nat} {s : ByteArray} {p : Nat} {v : Value} {m : M} (h : Cu w cb mb s p v m) (hp : p < s.size) (hs : m.stepOk 1 = true) :
    Calls Tryd.prog 80 #[.pointer (some ⟨cb, 0, none⟩)] w fun e w' => e = .returned (.bool true) ∧ Cu w' cb mb s (p + 1) v (m.step 1) ∧ Only [cb, mb] w w' := by
  refine (step_c h hp).mono ?_
  rintro e w' ⟨h1, h2⟩
  rw [skip_rest hp, fin_yes (n := 1) hs] at h1
  exact ⟨h1.1, h1.2, h2⟩
theorem step_no {w : World} {cb mb : Nat} {s : ByteArray} {p : Nat} {v : Value} {m : M} (h : Cu w cb mb s p v m) (hp : p < s.size) (hs : m.stepOk 1 = false) :
    Calls Tryd.prog 80 #[.pointer (some ⟨cb, 0, none⟩)] w fun e w' => e = .returned (.bool false) ∧ Cx w' cb mb s (m.step 1) (20, 0) ∧ Only [cb, mb] w w' := by
  refine (step_c h hp).mono ?_
  rintro e w' ⟨h1, h2⟩
  rw [skip_rest hp, fin_no (n := 1) hs] at h1
  exact ⟨h1.1, h1.2, h2⟩
/-- what is told: the outcome of a part, from place p on -/
abbrev fo {α : Type} (s : ByteArray) (m : M) (p : Nat) (P : Pz α) : O α := fin m p (s.size - p) (P (rest s p))
theorem fo_skip_yes {α : Type} {s : ByteArray} {m : M} (hw : m.why = 0) {p : Nat} (hp : p < s.size) (hs : m.stepOk 1 = true) (f : Unit → Nat → Pz α) : fo s m p (andThen skip f) = fo s (m.step 1) (p + 1) (f () 1) := by
  have h1 : fin m p (rest s p).length (skip (rest s p)) = (m.step 1, .ok ((), p + 1)) := by rw [skip_rest hp]; exact fin_yes (n := 1) hs
  have := fin_then_ok hw (f := f) fair_skip h1
  rw [Nat.add_sub_cancel_left, rest_drop, rest_length, Nat.sub_sub] at this
  exact this
theorem fo_skip_no {α : Type} {s : ByteArray} {m : M} (hw : m.why = 0) {p : Nat} (hp : p < s.size) (hs : m.stepOk 1 = false) (f : Unit → Nat → Pz α) : fo s m p (andThen skip f) = (m.step 1, .error (20, 0)) := by
  have h1 : fin m p (rest s p).length (skip (rest s p)) = (m.step 1, .error (20, 0)) := by rw [skip_rest hp]; exact fin_no (n := 1) hs
  have := fin_then_bad hw (f := f) fair_skip h1
  rw [rest_length] at this
  exact this
theorem fo_congr {α : Type} {s : ByteArray} {m : M} {p : Nat} {P Q : Pz α} (h : P (rest s p) = Q (rest s p)) : fo s m p P = fo s m p Q := by
  unfold fo; rw [h]
theorem byteP_head {q : Nat → Bool} {k b : Nat} {l : List Nat} (h : l.head? = some b) (hq : q b = true) : byteP q k l = skip l := by
  rcases l with _ | ⟨c, l⟩
  · cases h
  · simp at h; subst h; unfold skip byteP; simp only; rw [if_pos hq]; rfl
theorem byteP_not {q : Nat → Bool} {k : Nat} {l : List Nat} (h : ∀ b, l.head? = some b → q b = false) : byteP q k l = fails k l := by
  rcases l with _ | ⟨c, l⟩
  · rfl
  · have := h c rfl
    unfold byteP
    simp only; rw [if_neg (by rw [this]; decide)]; rfl
theorem word_head {k c : Nat} {cs l : List Nat} (h : l.head? = some c) : word k (c :: cs) l = andThen skip (fun _ _ => word k cs) l := by
  show andThen _ _ l = _
  unfold andThen
  rw [byteP_head h (by simp)]
theorem word_not {k c : Nat} {cs l : List Nat} (h : l.head? ≠ some c) : word k (c :: cs) l = fails k l := by
  show andThen _ _ l = _
  exact then_bad (e := (k, 0)) (byteP_not fun b hb => by
    simp only [beq_eq_false_iff_ne]
    rintro rfl; exact h hb)
theorem fo_done {α : Type} {s : ByteArray} {m : M} (hm : m.Ok) (hw : m.why = 0) (p : Nat) (a : α) : fo s m p (done a) = (m, .ok (a, p)) := fin_done hm hw p _ a
theorem bl_head_at (t : ByteArray) (k : Nat) (h : k < t.size) : (bl t).drop k = (t[k]'h).toNat :: (bl t).drop (k + 1) := by
  have h1 : k < (bl t).length := by rw [bl_length]; exact h
  rw [List.drop_eq_getElem_cons h1]
  congr 1
  rw [bl_at t k h, List.getD_eq_getElem?_getD, List.getElem?_eq_getElem h1]; rfl

set_option maxHeartbeats 1000000 in
theorem steps_c {w : World} {cb mb : Nat} {s : ByteArray} {p : Nat} {v : Value} {m : M} (h : Cu w cb mb s p v m) (n : Nat) (hn : p + n ≤ s.size) :
    Calls Tryd.prog 108 #[.pointer (some ⟨cb, 0, none⟩), .int .i64 n] w fun e w' => PB w' cb mb s v (fin m p (s.size - p) (.ok ((), n))) e ∧ Only [cb, mb] w w' := by
  obtain ⟨o, ho⟩ : ∃ o : O Unit, fin m p (s.size - p) (.ok ((), n)) = o := ⟨_, rfl⟩
  rw [ho]
  have HO := hid ho
  have HU := hid h
  have hsz := h.sz
  have hw := hid h.why
  have hz := hid (M.step_zero h.ok h.why)
  clear ho h
  go_enter Tryd.func108, Tryd.ntmps108
  go_wp2
  go_loopw [6] (fun i wr => ∃ k : Nat, k ≤ n ∧ i = .int .i64 k ∧ m.stepOk k = true ∧ Cu wr cb mb s (p + k) v (m.step k) ∧ Only [cb, mb] w wr) (fun i _ => n - (RowKit.intOf i).toNat)
  case atStart =>
    refine ⟨0, by omega, rfl, hz.out.2, ?_, Only.refl _ _⟩
    rw [show m.step ((0 : Nat) : Int) = m from hz.out.1]
    exact HU.out
  case round =>
    obtain ⟨k, hk, rfl, hs, hu, ho⟩ := hrel
    have HUK := hid hu
    have HOK := hid ho
    have HSK := hid hs
    clear hu ho hs
    by_cases hlt : k < n
    · have hlt' : (k : Int) < (n : Int) := by omega
      obtain ⟨e1, e2, e3⟩ := M.step_add hw.out (a := (k : Nat)) (b := 1) (by omega) (by omega) HSK.out
      have E1 := hid e1; have E2 := hid e2; have E3 := hid e3
      clear e1 e2 e3
      rcases hs1 : (m.step (k : Nat)).stepOk 1 with _ | _
      · have HS1 := hid hs1
        clear hs1
        go_wp2_with fail
        refine (step_no HUK.out (by omega) HS1.out).mono ?_
        rintro e w1 ⟨rfl, hx, hol⟩
        go_wp2
        go_ret
        refine ⟨?_, HOK.out.trans hol⟩
        have hno : m.stepOk (n : Nat) = false ∧ m.step (n : Nat) = (m.step (k : Nat)).step 1 := by
          have q : m.stepOk ((k : Int) + 1) = false := by rw [E3.out]; exact HS1.out
          have := M.step_over hw.out (a := (k : Int) + 1) (b := ((n - (k + 1) : Nat) : Int)) (by omega) (by omega) q
          rw [show (k : Int) + 1 + ((n - (k + 1) : Nat) : Int) = (n : Nat) by omega] at this
          exact ⟨this.2, this.1.trans E2.out⟩
        rw [← HO.out, fin_no hno.1, hno.2]
        exact ⟨rfl, hx⟩
      · have HS1 := hid hs1
        clear hs1
        go_wp2_with fail
        refine (step_yes HUK.out (by omega) HS1.out).mono ?_
        rintro e w1 ⟨rfl, hx, hol⟩
        go_wp2
        go_roundw
        case rel =>
          refine ⟨k + 1, by omega, by go_num, ?_, ?_, HOK.out.trans hol⟩
          · have := E3.out.trans HS1.out
            rw [Int.natCast_add]; exact this
          · rw [Int.natCast_add, show ((1 : Nat) : Int) = 1 from rfl, E2.out]; exact hx
        case measure => simp [RowKit.intOf]; omega
    · have hlt' : ¬ (k : Int) < (n : Int) := by omega
      obtain rfl : k = n := by omega
      go_wp2
      go_ret
      refine ⟨?_, HOK.out⟩
      rw [← HO.out, fin_yes HSK.out]
      exact ⟨rfl, HUK.out⟩

set_option maxHeartbeats 1000000 in
theorem word_c {w : World} {cb mb : Nat} {s : ByteArray} {p : Nat} {v : Value} {m : M} (h : Cu w cb mb s p v m) (t : ByteArray) (ht : t.size ≤ 256) (K : Nat) :
    Calls Tryd.prog 97 #[.pointer (some ⟨cb, 0, none⟩), .string t, .int .i64 K] w fun e w' => PB w' cb mb s v (fo s m p (word K (bl t))) e ∧ Only [cb, mb] w w' := by
  obtain ⟨o, ho⟩ : ∃ o : O Unit, fo s m p (word K (bl t)) = o := ⟨_, rfl⟩
  rw [ho]
  have HO := hid ho
  have HU := hid h
  have hsz := h.sz
  clear ho h
  go_enter Tryd.func97, Tryd.ntmps97
  go_wp2
  go_loopw [10] (fun i wr => ∃ (k : Nat) (m' : M), k ≤ t.size ∧ i = .int .i64 k ∧ Cu wr cb mb s (p + k) v m' ∧ fo s m' (p + k) (word K ((bl t).drop k)) = o ∧ Only [cb, mb] w wr) (fun i _ => t.size - (RowKit.intOf i).toNat)
  case atStart => exact ⟨0, m, by omega, rfl, HU.out, HO.out, Only.refl _ _⟩
  case round =>
    obtain ⟨k, m', hk, rfl, hu, hoo, ho⟩ := hrel
    have HUK := hid hu
    have HOK := hid ho
    have HOO := hid hoo
    clear hu ho hoo
    by_cases hlt : k < t.size
    · have hx8 := (t[k]'hlt).toNat_lt
      have hdr := bl_head_at t k hlt
      obtain ⟨x, hx⟩ : ∃ x, t[k]'hlt = x := ⟨_, rfl⟩
      rw [hx] at hdr hx8
      have HD := hid hdr
      clear hdr
      obtain ⟨a, ha⟩ : ∃ a, aheadI (rest s (p + k)).head? = a := ⟨_, rfl⟩
      have HAI := hid ha
      clear ha
      have HA := hid (fun W (h : Cu W cb mb s (p + k) v m') => (HAI.out ▸ ahead_any h : Calls Tryd.prog 60 #[.pointer (some ⟨cb, 0, none⟩)] W fun e w' => e = .returned (.int .i64 a) ∧ ∃ n, w' = W.drewN n))
      by_cases heq : a = (x.toNat : Int)
      · subst heq
        have hhead : (rest s (p + k)).head? = some x.toNat := by
          have := HAI.out
          rcases hh : (rest s (p + k)).head? with _ | b
          · rw [hh] at this; simp [aheadI] at this
          · rw [hh] at this; simp only [aheadI] at this; congr 1; omega
        have hp : p + k < s.size := by
          rcases HUK.out.nil_or with ⟨h, _⟩ | ⟨_, h⟩
          · exact h
          · rw [h] at hhead; cases hhead
        have hP : fo s m' (p + k) (word K ((bl t).drop k)) = fo s m' (p + k) (andThen skip fun _ _ => word K ((bl t).drop (k + 1))) := by
          refine fo_congr ?_
          rw [HD.out]
          exact word_head hhead
        have HP := hid hP
        clear hP hhead
        rcases hs1 : m'.stepOk 1 with _ | _
        · have HS1 := hid hs1
          clear hs1
          go_wp2
          go_quiet ((go_at_call 60; exact Calls.quiet_of (HA.out _ (HUK.out.drewN _))))
          go_wp2_with fail
          refine (step_no (HUK.out.drewN _) hp HS1.out).mono ?_
          rintro e w1 ⟨rfl, hx, hol⟩
          go_wp2
          go_ret
          refine ⟨?_, HOK.out.trans (Only.behind (only_drewN _ _) hol)⟩
          rw [← HOO.out, HP.out, fo_skip_no HUK.out.why hp HS1.out]
          exact ⟨rfl, hx⟩
        · have HS1 := hid hs1
          clear hs1
          go_wp2
          go_quiet ((go_at_call 60; exact Calls.quiet_of (HA.out _ (HUK.out.drewN _))))
          go_wp2_with fail
          refine (step_yes (HUK.out.drewN _) hp HS1.out).mono ?_
          rintro e w1 ⟨rfl, hx, hol⟩
          go_wp2
          go_roundw
          case rel =>
            refine ⟨k + 1, m'.step 1, by omega, by go_num, hx, ?_, HOK.out.trans (Only.behind (only_drewN _ _) hol)⟩
            rw [← HOO.out, HP.out, fo_skip_yes HUK.out.why hp HS1.out]
            rfl
          case measure => simp [RowKit.intOf]; omega
      · have hne : (a != (x.toNat : Int)) = true := by simpa using heq
        have hP : fo s m' (p + k) (word K ((bl t).drop k)) = fo s m' (p + k) (fails K) := by
          refine fo_congr ?_
          rw [HD.out]
          refine word_not fun hh => heq ?_
          have := HAI.out
          rw [hh] at this
          exact this.symm
        have HP := hid hP
        clear hP
        go_wp2
        go_quiet ((go_at_call 60; exact Calls.quiet_of (HA.out _ (HUK.out.drewN _))))
        go_wp2_with fail
        refine (wrong_c (HUK.out.drewN _) K).mono ?_
        rintro e w1 ⟨hx, hol⟩
        have hx : PB w1 cb mb s v o e := by rw [← HOO.out, HP.out]; exact hx
        have HX := hid hx
        have : ∃ b, e = .returned (.bool b) := by
          unfold PB at hx
          split at hx
          · exact ⟨_, hx.1⟩
          · exact ⟨_, hx.1⟩
        obtain ⟨b, rfl⟩ := this
        clear hx
        go_wp2
        go_ret
        exact ⟨HX.out, HOK.out.trans (Only.behind (only_drewN _ _) hol)⟩
    · obtain rfl : k = t.size := by omega
      go_wp2
      go_ret
      refine ⟨?_, HOK.out⟩
      rw [← HOO.out, List.drop_eq_nil_of_le (by rw [bl_length]; exact Nat.le_refl _)]
      show PB wr cb mb s v (fo s m' (p + t.size) (done ())) _
      rw [fo_done HUK.out.ok HUK.out.why]
      exact ⟨rfl, HUK.out⟩
end Go.Proofs.YthlbbinlkmchjaaDoor
