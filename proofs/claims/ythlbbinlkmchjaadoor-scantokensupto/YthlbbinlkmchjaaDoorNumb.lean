/- The cutter's number. -/
import Derived.Test.YthlbbinlkmchjaaDoorPlain
namespace Go.Proofs.YthlbbinlkmchjaaDoor
open Go.RowKit

theorem widthI_isRune (n : Nat) : (isRune n = true → 0 < widthI n ∧ widthI n ≤ 4) ∧ (isRune n = false → widthI n = 0) := by
  unfold isRune widthI
  constructor
  · intro h
    simp at h
    rw [if_neg (by omega)]
    repeat' split
    all_goals omega
  · intro h
    simp at h
    rw [if_pos (by omega)]
theorem digI_ahead (b : Option Nat) : digI (aheadI b) = match digO b with | none => -1 | some d => (d : Int) := by
  rcases b with _ | b
  · rfl
  · unfold digO
    simp only [aheadI]
    unfold digI
    by_cases h1 : 48 ≤ b ∧ b ≤ 57
    · rw [if_pos (by omega), if_pos h1]; simp only; omega
    · rw [if_neg (by omega), if_neg h1]
      by_cases h2 : 97 ≤ b ∧ b ≤ 102
      · rw [if_pos (by omega), if_pos h2]; simp only; omega
      · rw [if_neg (by omega), if_neg h2]
        by_cases h3 : 65 ≤ b ∧ b ≤ 70
        · rw [if_pos (by omega), if_pos h3]; simp only; omega
        · rw [if_neg (by omega), if_neg h3]
theorem digO_lt {b : Option Nat} {d : Nat} (h : digO b = some d) : d < 16 := by
  rcases b with _ | b
  · cases h
  · unfold digO at h
    simp only at h
    repeat' split at h
    all_goals (simp at h; try omega)

theorem digO_59 : digO (some 59) = none := rfl
theorem numK_semi {r n : Nat} {l : List Nat} (hh : l.head? = some 59) (hr : r < 6) (hn : isRune n = true) : numK r n l = andThen skip (fun _ _ => done n) l := by
  rcases r with _ | r
  · show look _ l = _
    unfold look; dsimp only; rw [hh, if_pos ⟨rfl, hn⟩]
  · show look _ l = _
    unfold look; dsimp only; rw [hh, if_pos ⟨rfl, hr, hn⟩]
theorem numK_none {r n : Nat} {l : List Nat} (h1 : l.head? ≠ some 59 ∨ r = 6 ∨ isRune n = false) (h2 : digO l.head? = none ∨ r = 0) (hr : r ≤ 6) : numK r n l = fails 71 l := by
  rcases r with _ | r
  · show look _ l = _
    unfold look; dsimp only
    rw [if_neg]
    rintro ⟨h3, h4⟩
    rcases h1 with h1 | h1 | h1
    · exact h1 h3
    · cases h1
    · rw [h1] at h4; cases h4
  · have h2 : digO l.head? = none := by rcases h2 with h | h; exact h; cases h
    show look _ l = _
    unfold look; dsimp only
    rw [if_neg, h2]
    rintro ⟨h3, h4, h5⟩
    rcases h1 with h1 | h1 | h1
    · exact h1 h3
    · omega
    · rw [h1] at h5; cases h5
theorem numK_last {n d : Nat} {l : List Nat} (h2 : digO l.head? = some d) (hn : isRune (16 * n + d) = false) : numK 1 n l = fails 71 l := by
  show look _ l = _
  unfold look; dsimp only
  rw [if_neg, h2]
  · dsimp only
    rw [if_pos ⟨rfl, hn⟩]
  · rintro ⟨h3, _⟩
    rw [h3] at h2; cases h2
theorem numK_more {r n d : Nat} {l : List Nat} (h2 : digO l.head? = some d) (hn : r = 0 → isRune (16 * n + d) = true) : numK (r + 1) n l = andThen skip (fun _ _ => numK r (16 * n + d)) l := by
  show look _ l = _
  unfold look; dsimp only
  rw [if_neg, h2]
  · dsimp only
    rw [if_neg]
    rintro ⟨h3, h4⟩
    rw [hn h3] at h4; cases h4
  · rintro ⟨h3, _⟩
    rw [h3] at h2; cases h2
theorem or_hex (x d : Nat) (hx : x ≤ 1048575) (hd : d < 16) : bits .or .i64 ((x : Int) * 16) (d : Int) = ((16 * x + d : Nat) : Int) := by
  rw [bits_join .i64 31 (by decide) (fun n h0 h1 => by rw [IntKind.wrap_i64]; omega) 4 _ _ (by omega) (by omega) (by omega) (by omega) (by omega) (by omega)]
  omega
set_option maxRecDepth 100000 in
set_option maxHeartbeats 4000000 in
theorem number_c {w : World} {cb mb : Nat} {s : ByteArray} {p : Nat} {v : Value} {m : M} (h : Cu w cb mb s p v m) :
    Calls Tryd.prog 107 #[.pointer (some ⟨cb, 0, none⟩)] w fun e w' => PV evI ezI w' cb mb s v (fo s m p (numK 6 0)) e ∧ Only [cb, mb] w w' := by
  obtain ⟨o, ho⟩ : ∃ o : O Nat, fo s m p (numK 6 0) = o := ⟨_, rfl⟩
  rw [ho]
  have HO := hid ho
  have HU := hid h
  have hsz := h.sz
  clear ho h
  go_enter Tryd.func107, Tryd.ntmps107
  go_wp2
  go_loopw [4, 5] (fun n i wr => ∃ (k x : Nat) (m' : M), k ≤ 6 ∧ x ≤ 16777215 ∧ n = .int .i64 x ∧ i = .int .i64 k ∧ Cu wr cb mb s (p + k) v m' ∧ fo s m' (p + k) (numK (6 - k) x) = o ∧ x + 1 ≤ 16 ^ k ∧ Only [cb, mb] w wr) (fun _ i _ => 7 - (RowKit.intOf i).toNat)
  case atStart => exact ⟨0, 0, m, by omega, by omega, rfl, rfl, HU.out, HO.out, by decide, Only.refl _ _⟩
  case round =>
    obtain ⟨k, x, m', hk, hx, rfl, rfl, hu, hoo, hx5, ho⟩ := hrel
    have HUK := hid hu
    have HOK := hid ho
    have HOO := hid hoo
    have HX5 := hid hx5
    clear hu ho hoo hx5
    obtain ⟨b, hb⟩ : ∃ b, (rest s (p + k)).head? = b := ⟨_, rfl⟩
    obtain ⟨a, ha⟩ : ∃ a, aheadI b = a := ⟨_, rfl⟩
    have hbd : -1 ≤ a ∧ a ≤ 255 := by
      rw [← ha, ← hb]
      rcases HUK.out.nil_or with ⟨_, c, hc, hh, _⟩ | ⟨_, hh⟩
      · rw [hh]; simp only [aheadI]; omega
      · rw [hh]; simp only [List.head?_nil, aheadI]; omega
    have HA := hid (fun W (h : Cu W cb mb s (p + k) v m') => (by rw [← ha, ← hb]; exact ahead_any h : Calls Tryd.prog 60 #[.pointer (some ⟨cb, 0, none⟩)] W fun e w' => e = .returned (.int .i64 a) ∧ ∃ n, w' = W.drewN n))
    have HD := hid (fun W => digit_any a W hbd.1 hbd.2)
    have hdi := digI_ahead b
    rw [ha] at hdi
    obtain ⟨d, hd⟩ : ∃ d, digI a = d := ⟨_, rfl⟩
    rw [hd] at HD hdi
    have HWX := hid (fun W => width_any (x : Int) W)
    obtain ⟨y, hy⟩ : ∃ y, widthI (x : Int) = y := ⟨_, rfl⟩
    have hwi := widthI_isRune x
    rw [hy] at HWX hwi
    have ha59 : a = 59 ↔ b = some 59 := by
      rw [← ha]
      rcases b with _ | b
      · simp [aheadI]
      · simp only [aheadI, Option.some.injEq]; omega
    have HB := hid hb
    have wrong : ∀ n, fo s m' (p + k) (numK (6 - k) x) = fo s m' (p + k) (fails 71) → Calls Tryd.prog 84 #[.pointer (some ⟨cb, 0, none⟩), .int .i64 71] (wr.drewN n) fun e w' => e = .returned (.bool false) ∧ PV evI ezI w' cb mb s v o (.returned (.tuple #[.int .i64 0, .bool false])) ∧ Only [cb, mb] w w' := by
      intro n hP
      refine (wrong_x (HUK.out.drewN n) 71).mono ?_
      rintro e w1 ⟨rfl, hx, hol⟩
      refine ⟨rfl, ?_, HOK.out.trans (Only.behind (only_drewN _ _) hol)⟩
      rw [← HOO.out, hP, fo_fails]
      exact ⟨⟨_, rfl, 0, rfl, by omega, by omega⟩, hx⟩
    have WR := hid wrong
    clear wrong ha hb hy hd
    rcases hdo : digO b with _ | d'
    · rw [hdo] at hdi
      simp only at hdi
      subst hdi
      by_cases h59 : a = 59
      · subst h59
        have hb59 : b = some 59 := ha59.1 rfl
        by_cases hk0 : k = 0
        · subst hk0
          have HP := hid (fo_congr (s := s) (m := m') (p := p + 0) (numK_none (r := 6 - 0) (n := x) (.inr (.inl rfl)) (.inl (by rw [HB.out]; exact hdo)) (by omega)))
          clear hdo hwi ha59 hb59
          go_wp2_with fail
          refine (HA.out _ HUK.out).mono ?_
          rintro e w1 ⟨rfl, n1, rfl⟩
          go_wp2_with fail
          refine (HD.out _).mono ?_
          rintro e w1 ⟨rfl, rfl⟩
          go_wp2_with fail
          refine (HA.out _ (HUK.out.drewN n1)).mono ?_
          rintro e w1 ⟨rfl, n2, rfl⟩
          rw [drewN_two]
          go_wp2_with fail
          refine (WR.out _ HP.out).mono ?_
          rintro e w1 ⟨rfl, hx, hol⟩
          go_wp2
          go_ret2
          exact ⟨hx, hol⟩
        · have hk1 : (0 : Int) < (k : Int) := by omega
          rcases hru : isRune x with _ | _
          · have hy0 := hwi.2 hru
            subst hy0
            have HP := hid (fo_congr (s := s) (m := m') (p := p + k) (numK_none (r := 6 - k) (n := x) (.inr (.inr hru)) (.inl (by rw [HB.out]; exact hdo)) (by omega)))
            clear hdo hwi ha59 hb59 hru
            go_wp2_with fail
            refine (HA.out _ HUK.out).mono ?_
            rintro e w1 ⟨rfl, n1, rfl⟩
            go_wp2_with fail
            refine (HD.out _).mono ?_
            rintro e w1 ⟨rfl, rfl⟩
            go_wp2_with fail
            refine (HA.out _ (HUK.out.drewN n1)).mono ?_
            rintro e w1 ⟨rfl, n2, rfl⟩
            rw [drewN_two]
            go_wp2_with fail
            refine (HWX.out _).mono ?_
            rintro e w1 ⟨rfl, rfl⟩
            go_wp2_with fail
            refine (WR.out _ HP.out).mono ?_
            rintro e w1 ⟨rfl, hx, hol⟩
            go_wp2
            go_ret2
            exact ⟨hx, hol⟩
          · have hy0 := hwi.1 hru
            obtain ⟨hy1, hy2⟩ := hy0
            have hp : p + k < s.size := by
              rcases HUK.out.nil_or with ⟨h, _⟩ | ⟨_, h⟩
              · exact h
              · have := HB.out; rw [h, hb59] at this; cases this
            have HP := hid (fo_congr (s := s) (m := m') (p := p + k) (numK_semi (r := 6 - k) (n := x) (by rw [HB.out]; exact hb59) (by omega) hru))
            have hx1 : x ≤ 1114111 := by unfold isRune at hru; simp at hru; exact hru.1
            clear hdo hwi ha59 hb59 hru
            rcases hs1 : m'.stepOk 1 with _ | _
            · have HS1 := hid hs1
              clear hs1
              go_wp2_with fail
              refine (HA.out _ HUK.out).mono ?_
              rintro e w1 ⟨rfl, n1, rfl⟩
              go_wp2_with fail
              refine (HD.out _).mono ?_
              rintro e w1 ⟨rfl, rfl⟩
              go_wp2_with fail
              refine (HA.out _ (HUK.out.drewN n1)).mono ?_
              rintro e w1 ⟨rfl, n2, rfl⟩
              rw [drewN_two]
              go_wp2_with fail
              refine (HWX.out _).mono ?_
              rintro e w1 ⟨rfl, rfl⟩
              go_wp2_with fail
              refine (step_no (HUK.out.drewN _) hp HS1.out).mono ?_
              rintro e w1 ⟨rfl, hx, hol⟩
              go_wp2
              go_ret2
              rw [← HOO.out, HP.out, fo_skip_no HUK.out.why hp HS1.out]
              exact ⟨⟨⟨_, rfl, _, rfl, by omega, by omega⟩, hx⟩, HOK.out.trans (Only.behind (only_drewN _ _) hol)⟩
            · have HS1 := hid hs1
              clear hs1
              go_wp2_with fail
              refine (HA.out _ HUK.out).mono ?_
              rintro e w1 ⟨rfl, n1, rfl⟩
              go_wp2_with fail
              refine (HD.out _).mono ?_
              rintro e w1 ⟨rfl, rfl⟩
              go_wp2_with fail
              refine (HA.out _ (HUK.out.drewN n1)).mono ?_
              rintro e w1 ⟨rfl, n2, rfl⟩
              rw [drewN_two]
              go_wp2_with fail
              refine (HWX.out _).mono ?_
              rintro e w1 ⟨rfl, rfl⟩
              go_wp2_with fail
              refine (step_yes (HUK.out.drewN _) hp HS1.out).mono ?_
              rintro e w1 ⟨rfl, hx, hol⟩
              go_wp2
              go_ret2
              rw [← HOO.out, HP.out, fo_skip_yes HUK.out.why hp HS1.out, fo_done hx.ok hx.why]
              exact ⟨⟨⟨_, rfl, rfl⟩, hx⟩, HOK.out.trans (Only.behind (only_drewN _ _) hol)⟩
      · have HP := hid (fo_congr (s := s) (m := m') (p := p + k) (numK_none (r := 6 - k) (n := x) (.inl (by rw [HB.out]; exact fun e => h59 (ha59.2 e))) (.inl (by rw [HB.out]; exact hdo)) (by omega)))
        clear hdo hwi ha59
        go_wp2_with fail
        refine (HA.out _ HUK.out).mono ?_
        rintro e w1 ⟨rfl, n1, rfl⟩
        go_wp2_with fail
        refine (HD.out _).mono ?_
        rintro e w1 ⟨rfl, rfl⟩
        go_wp2_with fail
        refine (HA.out _ (HUK.out.drewN n1)).mono ?_
        rintro e w1 ⟨rfl, n2, rfl⟩
        rw [drewN_two]
        go_wp2_with fail
        refine (WR.out _ HP.out).mono ?_
        rintro e w1 ⟨rfl, hx, hol⟩
        go_wp2
        go_ret2
        exact ⟨hx, hol⟩
    · rw [hdo] at hdi
      simp only at hdi
      subst hdi
      have hd16 := digO_lt hdo
      have h59 : ¬ a = 59 := fun e => by rw [ha59.1 e] at hdo; cases hdo
      have hdn : ¬ (d' : Int) < 0 := by omega
      by_cases hk6 : k = 6
      · subst hk6
        have HP := hid (fo_congr (s := s) (m := m') (p := p + 6) (numK_none (r := 6 - 6) (n := x) (.inl (by rw [HB.out]; exact fun e => h59 (ha59.2 e))) (.inr rfl) (by omega)))
        clear hdo hwi ha59
        go_wp2_with fail
        refine (HA.out _ HUK.out).mono ?_
        rintro e w1 ⟨rfl, n1, rfl⟩
        go_wp2_with fail
        refine (HD.out _).mono ?_
        rintro e w1 ⟨rfl, rfl⟩
        go_wp2_with fail
        refine (HA.out _ (HUK.out.drewN n1)).mono ?_
        rintro e w1 ⟨rfl, n2, rfl⟩
        rw [drewN_two]
        go_wp2_with fail
        refine (WR.out _ HP.out).mono ?_
        rintro e w1 ⟨rfl, hx, hol⟩
        go_wp2
        go_ret2
        exact ⟨hx, hol⟩
      · have hk6' : ¬ (k : Int) = 6 := by omega
        have hx5 : x ≤ 1048575 := by
          have h1 := HX5.out
          have h2 : 16 ^ k ≤ 16 ^ 5 := Nat.pow_le_pow_right (by decide) (by omega)
          omega
        have hp : p + k < s.size := by
          rcases HUK.out.nil_or with ⟨h, _⟩ | ⟨_, h⟩
          · exact h
          · have := HB.out; rw [h] at this; rw [← this] at hdo; cases hdo
        have hbit := or_hex x d' hx5 hd16
        obtain ⟨z, hz⟩ : ∃ z, 16 * x + d' = z := ⟨_, rfl⟩
        rw [hz] at hbit
        have hz1 : z ≤ 16777215 := by omega
        have HZ : Hid ((z : Int) = ((16 * x + d' : Nat) : Int)) := by show _ = _; rw [hz]
        by_cases hk5 : k = 5
        · subst hk5
          rcases hru : isRune z with _ | _
          · have hy0 := (widthI_isRune z).2 hru
            have HWZ := hid (fun W => width_any (z : Int) W)
            rw [hy0] at HWZ
            have HP := hid (fo_congr (s := s) (m := m') (p := p + 5) (numK_last (n := x) (d := d') (by rw [HB.out]; exact hdo) (by rw [hz]; exact hru)))
            clear hdo hwi ha59 hru hz
            go_wp2_with fail
            refine (HA.out _ HUK.out).mono ?_
            rintro e w1 ⟨rfl, n1, rfl⟩
            go_wp2_with fail
            refine (HD.out _).mono ?_
            rintro e w1 ⟨rfl, rfl⟩
            go_wp2_with fail
            refine (HA.out _ (HUK.out.drewN n1)).mono ?_
            rintro e w1 ⟨rfl, n2, rfl⟩
            rw [drewN_two]
            go_wp2_with fail
            refine (HWZ.out _).mono ?_
            rintro e w1 ⟨rfl, rfl⟩
            go_wp2_with fail
            refine (WR.out _ HP.out).mono ?_
            rintro e w1 ⟨rfl, hx, hol⟩
            go_wp2
            go_ret2
            exact ⟨hx, hol⟩
          · obtain ⟨hy1, hy2⟩ := (widthI_isRune z).1 hru
            have HWZ := hid (fun W => width_any (z : Int) W)
            obtain ⟨yz, hyz⟩ : ∃ yz, widthI (z : Int) = yz := ⟨_, rfl⟩
            rw [hyz] at HWZ hy1 hy2
            have hyn : ¬ yz = 0 := by omega
            have HP := hid (fo_congr (s := s) (m := m') (p := p + 5) (numK_more (r := 0) (n := x) (d := d') (by rw [HB.out]; exact hdo) (fun _ => by rw [hz]; exact hru)))
            clear hdo hwi ha59 hru hz hyz
            rcases hs1 : m'.stepOk 1 with _ | _
            · have HS1 := hid hs1
              clear hs1
              go_wp2_with fail
              refine (HA.out _ HUK.out).mono ?_
              rintro e w1 ⟨rfl, n1, rfl⟩
              go_wp2_with fail
              refine (HD.out _).mono ?_
              rintro e w1 ⟨rfl, rfl⟩
              go_wp2_with fail
              refine (HA.out _ (HUK.out.drewN n1)).mono ?_
              rintro e w1 ⟨rfl, n2, rfl⟩
              rw [drewN_two]
              go_wp2_with fail
              refine (HWZ.out _).mono ?_
              rintro e w1 ⟨rfl, rfl⟩
              go_wp2_with fail
              refine (step_no (HUK.out.drewN _) hp HS1.out).mono ?_
              rintro e w1 ⟨rfl, hx, hol⟩
              go_wp2
              go_ret2
              rw [← HOO.out, HP.out, fo_skip_no HUK.out.why hp HS1.out]
              exact ⟨⟨⟨_, rfl, 0, rfl, by omega, by omega⟩, hx⟩, HOK.out.trans (Only.behind (only_drewN _ _) hol)⟩
            · have HS1 := hid hs1
              clear hs1
              go_wp2_with fail
              refine (HA.out _ HUK.out).mono ?_
              rintro e w1 ⟨rfl, n1, rfl⟩
              go_wp2_with fail
              refine (HD.out _).mono ?_
              rintro e w1 ⟨rfl, rfl⟩
              go_wp2_with fail
              refine (HA.out _ (HUK.out.drewN n1)).mono ?_
              rintro e w1 ⟨rfl, n2, rfl⟩
              rw [drewN_two]
              go_wp2_with fail
              refine (HWZ.out _).mono ?_
              rintro e w1 ⟨rfl, rfl⟩
              go_wp2_with fail
              refine (step_yes (HUK.out.drewN _) hp HS1.out).mono ?_
              rintro e w1 ⟨rfl, hx, hol⟩
              go_wp2
              go_roundw
              case rel =>
                refine ⟨5 + 1, 16 * x + d', m'.step 1, by omega, by omega, ?_, by go_num, hx, ?_, (by have h1 := HX5.out; rw [Nat.pow_succ]; omega), HOK.out.trans (Only.behind (only_drewN _ _) hol)⟩
                · exact congrArg (Value.int IntKind.i64) HZ.out
                · rw [← HOO.out, HP.out, fo_skip_yes HUK.out.why hp HS1.out, show 6 - (5 + 1) = 0 by omega]
              case measure => simp [RowKit.intOf]
        · have hk5' : ¬ (k : Int) = 5 := by omega
          have HP := hid (fo_congr (s := s) (m := m') (p := p + k) (numK_more (r := 6 - k - 1) (n := x) (d := d') (by rw [HB.out]; exact hdo) (fun _ => by omega)))
          rw [show 6 - k - 1 + 1 = 6 - k by omega] at HP
          clear hdo hwi ha59 hz
          rcases hs1 : m'.stepOk 1 with _ | _
          · have HS1 := hid hs1
            clear hs1
            go_wp2_with fail
            refine (HA.out _ HUK.out).mono ?_
            rintro e w1 ⟨rfl, n1, rfl⟩
            go_wp2_with fail
            refine (HD.out _).mono ?_
            rintro e w1 ⟨rfl, rfl⟩
            go_wp2_with fail
            refine (HA.out _ (HUK.out.drewN n1)).mono ?_
            rintro e w1 ⟨rfl, n2, rfl⟩
            rw [drewN_two]
            go_wp2_with fail
            refine (step_no (HUK.out.drewN _) hp HS1.out).mono ?_
            rintro e w1 ⟨rfl, hx, hol⟩
            go_wp2
            go_ret2
            rw [← HOO.out, HP.out, fo_skip_no HUK.out.why hp HS1.out]
            exact ⟨⟨⟨_, rfl, 0, rfl, by omega, by omega⟩, hx⟩, HOK.out.trans (Only.behind (only_drewN _ _) hol)⟩
          · have HS1 := hid hs1
            clear hs1
            go_wp2_with fail
            refine (HA.out _ HUK.out).mono ?_
            rintro e w1 ⟨rfl, n1, rfl⟩
            go_wp2_with fail
            refine (HD.out _).mono ?_
            rintro e w1 ⟨rfl, rfl⟩
            go_wp2_with fail
            refine (HA.out _ (HUK.out.drewN n1)).mono ?_
            rintro e w1 ⟨rfl, n2, rfl⟩
            rw [drewN_two]
            go_wp2_with fail
            refine (step_yes (HUK.out.drewN _) hp HS1.out).mono ?_
            rintro e w1 ⟨rfl, hx, hol⟩
            go_wp2
            go_roundw
            case rel =>
              refine ⟨k + 1, 16 * x + d', m'.step 1, by omega, by omega, ?_, by go_num, hx, ?_, (by have h1 := HX5.out; rw [Nat.pow_succ]; omega), HOK.out.trans (Only.behind (only_drewN _ _) hol)⟩
              · exact congrArg (Value.int IntKind.i64) HZ.out
              · rw [← HOO.out, HP.out, fo_skip_yes HUK.out.why hp HS1.out, show 6 - (k + 1) = 6 - k - 1 by omega]
                rfl
            case measure => simp [RowKit.intOf]; omega
end Go.Proofs.YthlbbinlkmchjaaDoor
