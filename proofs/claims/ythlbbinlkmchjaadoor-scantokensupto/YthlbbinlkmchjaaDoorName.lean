/- The cutter's name. -/
import Derived.Test.YthlbbinlkmchjaaDoorCuAll
import Derived.Test.YthlbbinlkmchjaaDoorShelf
import Derived.Test.YthlbbinlkmchjaaDoorStandAll
namespace Go.Proofs.YthlbbinlkmchjaaDoor
open Go.RowKit

def erM (s : ByteArray) (m : M) (p : Nat) : M := m.step ((if 0 < s.size - p then 1 else 0 : Nat) : Int)
def erF (s : ByteArray) (m : M) (p k : Nat) : Int × Int := if m.stepOk ((if 0 < s.size - p then 1 else 0 : Nat) : Int) then ((k : Int), (p : Int)) else (20, 0)
theorem fo_fails {α : Type} (s : ByteArray) (m : M) (p k : Nat) : fo s m p (fails k : Pz α) = (erM s m p, .error (erF s m p k)) := rfl
theorem wrong_x {w : World} {cb mb : Nat} {s : ByteArray} {p : Nat} {v : Value} {m : M} (h : Cu w cb mb s p v m) (k : Nat) :
    Calls Tryd.prog 84 #[.pointer (some ⟨cb, 0, none⟩), .int .i64 k] w fun e w' => e = .returned (.bool false) ∧ Cx w' cb mb s (erM s m p) (erF s m p k) ∧ Only [cb, mb] w w' := by
  refine (wrong_c h k).mono ?_
  rintro e w' ⟨h1, h2⟩
  have : fin m p (s.size - p) (fails k (rest s p) : R Unit) = (erM s m p, .error (erF s m p k)) := rfl
  rw [this] at h1
  exact ⟨h1.1, h1.2, h2⟩
theorem fo_text {α : Type} (s : ByteArray) (m : M) (p : Nat) (P : Pz α) : fo s m p (textP P) = match fo s m p P with
    | (m1, .ok x) => (m1, .ok ((rest s p).take (x.2 - p), x.2))
    | (m1, .error F) => (m1, .error F) := by
  unfold fo textP
  rcases hr : P (rest s p) with ⟨k, n⟩ | ⟨a, n⟩
  · rfl
  · unfold fin
    simp only
    split
    · simp only [Nat.add_sub_cancel_left]
    · rfl
theorem fo_look {α : Type} (s : ByteArray) (m : M) (p : Nat) (f : Option Nat → Pz α) : fo s m p (look f) = fo s m p (f (rest s p).head?) := rfl
def evS (x : List Nat) (_ : Nat) (z : Value) : Prop := ∃ t : ByteArray, z = .string t ∧ bl t = x
def ezS (z : Value) : Prop := z = .string ⟨#[]⟩
def lettI (b : Int) : Bool := decide ((97 ≤ b ∧ b ≤ 122) ∨ (65 ≤ b ∧ b ≤ 90))
theorem lettI_ahead (b : Option Nat) : lettI (aheadI b) = isLo b := by
  rcases b with _ | b
  · rfl
  · unfold lettI aheadI isLo isL
    rw [Bool.eq_iff_iff]
    simp only [decide_eq_true_eq]
    omega
theorem rest_take (s : ByteArray) (p n : Nat) : (rest s p).take n = bl (s.extract p (p + n)) := by
  rw [bl_extract, Nat.add_sub_cancel_left]; rfl

theorem namK_stop (r : Nat) {l : List Nat} (h : isLo l.head? = false) : namK r l = done () l := by
  rcases r with _ | r <;> unfold namK look <;> dsimp only <;> rw [h] <;> rfl
theorem namK_go (r : Nat) {l : List Nat} (h : isLo l.head? = true) : namK (r + 1) l = andThen skip (fun _ _ => namK r) l := by
  show look _ l = _
  unfold look; dsimp only; rw [h]; rfl
theorem namK_long {l : List Nat} (h : isLo l.head? = true) : namK 0 l = fails 72 l := by
  show look _ l = _
  unfold look; dsimp only; rw [h]; rfl
set_option maxHeartbeats 1000000 in
theorem clone_c (s : ByteArray) (w : World) (hlim : s.size ≤ 281474976710656) : Calls Tryd.prog 106 #[.string s] w fun e w' => e = .returned (.string s) ∧ Below w.heap.size w w' := by
  go_enter Tryd.func106, Tryd.ntmps106
  go_wp2_with fail
  refine (Tryd.stringslite_Clone s w hlim).mono ?_
  rintro e w1 ⟨rfl, hb⟩
  go_wp2
  go_ret
  exact ⟨rfl, hb⟩

set_option maxHeartbeats 1000000 in
theorem name_c {w : World} {cb mb : Nat} {s : ByteArray} {p : Nat} {v : Value} {m : M} (h : Cu w cb mb s p v m) :
    Calls Tryd.prog 96 #[.pointer (some ⟨cb, 0, none⟩)] w fun e w' => PV evS ezS w' cb mb s v (fo s m p name) e ∧ Only [cb, mb] w w' := by
  obtain ⟨o, ho⟩ : ∃ o : O (List Nat), fo s m p name = o := ⟨_, rfl⟩
  rw [ho]
  have HO := hid ho
  have HU := hid h
  have hsz := h.sz
  have hle := h.le
  have c2 : w.cell? ⟨cb, 2, none⟩ = some (.int .i64 p) := h.c.cell 2
  clear ho h
  go_enter Tryd.func96, Tryd.ntmps96
  go_wp2
  go_loopw [] (fun wr => ∃ (k : Nat) (m' : M), k ≤ 256 ∧ Cu wr cb mb s (p + k) v m' ∧ fo s m' (p + k) (namK (256 - k)) = fo s m p (namK 256) ∧ ((k = 0 ∧ m' = m) ∨ (1 ≤ k ∧ isLo (rest s p).head? = true)) ∧ Only [cb, mb] w wr) (fun wr => s.size - (RowKit.intOf ((wr.cell? ⟨cb, 2, none⟩).getD (.int .i64 0))).toNat)
  case atStart => exact ⟨0, m, by omega, HU.out, rfl, .inl ⟨rfl, rfl⟩, Only.refl _ _⟩
  case round =>
    obtain ⟨k, m', hk, hu, hoo, hfst, ho⟩ := hrel
    have HUK := hid hu
    have HOK := hid ho
    have HOO := hid hoo
    have hz : p + k ≤ s.size := hu.le
    have HF := hid hfst
    have d2 : wr.cell? ⟨cb, 2, none⟩ = some (.int .i64 ((p : Int) + (k : Int))) := by have := hu.c.cell 2; simpa [ccells] using this
    have d1 : wr.cell? ⟨cb, 1, none⟩ = some (.string s) := hu.c.cell 1
    clear hu ho hoo hfst
    obtain ⟨a, ha⟩ : ∃ a, aheadI (rest s (p + k)).head? = a := ⟨_, rfl⟩
    have HAI := hid ha
    clear ha
    have HA := hid (fun W (h : Cu W cb mb s (p + k) v m') => (HAI.out ▸ ahead_any h : Calls Tryd.prog 60 #[.pointer (some ⟨cb, 0, none⟩)] W fun e w' => e = .returned (.int .i64 a) ∧ ∃ n, w' = W.drewN n))
    have HL := hid (letter_any a)
    have hli : lettI a = isLo (rest s (p + k)).head? := by rw [← HAI.out]; exact lettI_ahead _
    rcases hl : isLo (rest s (p + k)).head? with _ | _
    · rw [hl] at hli
      have HLL := hid (fun W => (hli ▸ HL.out W : Calls Tryd.prog 85 #[.int .i64 a] W fun e w' => e = .returned (.bool false) ∧ w' = W))
      have HH := hid hl
      clear hli hl HL
      rcases HF.out with ⟨hk0, hmm⟩ | ⟨hk1, hf⟩
      · subst hk0
        subst hmm
        have hP : o = (erM s m' p, .error (erF s m' p 70)) := by
          rw [← HO.out, ← fo_fails]
          show fo s m' p (look _) = _
          rw [fo_look]
          have := HH.out
          rw [Nat.add_zero] at this
          rw [this]; rfl
        have HP := hid hP
        clear hP
        have HUK' : Hid (Cu wr cb mb s p v m') := HUK.out
        go_wp2_with (first
          | (go_at_call 60; refine (HA.out _ HUK.out).mono ?_; rintro e w1 ⟨rfl, n, rfl⟩)
          | (go_at_call 85; refine (HLL.out _).mono ?_; rintro e w1 ⟨rfl, rfl⟩))
        refine (wrong_x (HUK'.out.drewN n) 70).mono ?_
        rintro e w1 ⟨rfl, hx, hol⟩
        go_wp2
        go_ret2
        rw [HP.out]
        exact ⟨⟨⟨_, rfl, rfl⟩, hx⟩, HOK.out.trans (Only.behind (only_drewN _ _) hol)⟩
      · have hne : ¬ (k : Int) = 0 := by omega
        have hne2 : ¬ (p : Int) + (k : Int) = (p : Int) := by omega
        have hP : o = (m', .ok ((rest s p).take k, p + k)) := by
          have h1 : fo s m' (p + k) (namK (256 - k)) = (m', .ok ((), p + k)) := by
            rw [← fo_done HUK.out.ok HUK.out.why (p + k) ()]
            exact fo_congr (namK_stop _ HH.out)
          rw [← HO.out]
          show fo s m p (look _) = _
          rw [fo_look, hf, if_pos rfl, fo_text, ← HOO.out, h1]
          simp only [Nat.add_sub_cancel_left]
        have HP := hid hP
        clear hP
        have hsz2 : ((p : Int) + (k : Int)) ≤ (s.size : Int) := by omega
        have hz0 : (0 : Int) ≤ (p : Int) := by omega
        have hz1 : (p : Int) ≤ (p : Int) + (k : Int) := by omega
        have hcl := hid (fun W => clone_c (s.extract p (p + k)) W (by
          have := bl_length (s.extract p (p + k))
          rw [bl_extract, List.length_take, List.length_drop, bl_length] at this
          omega))
        go_wp2_with (first
          | (go_at_call 60; refine (HA.out _ HUK.out).mono ?_; rintro e w1 ⟨rfl, n, rfl⟩)
          | (go_at_call 85; refine (HLL.out _).mono ?_; rintro e w1 ⟨rfl, rfl⟩))
        have hS0 : (wr.drewN n).cell? ⟨cb, 1, none⟩ = some (.string s) ∧ (wr.drewN n).cell? ⟨cb, 2, none⟩ = some (.int .i64 ((p : Int) + (k : Int))) := ⟨d1, d2⟩
        have hlt : cb < (wr.drewN n).heap.size := (HUK.out.drewN n).c.lt
        go_region_held3 (fun w' => w'.cell? ⟨cb, 1, none⟩ = some (.string s) ∧ w'.cell? ⟨cb, 2, none⟩ = some (.int .i64 ((p : Int) + (k : Int)))) (first | exact hS1 | exact hS0)
          (first | (go_at_call 106; refine (hcl.out _).mono ?_; rintro e w1 ⟨rfl, hb1⟩; have hS1 : w1.cell? ⟨cb, 1, none⟩ = some (.string s) ∧ w1.cell? ⟨cb, 2, none⟩ = some (.int .i64 ((p : Int) + (k : Int))) := ⟨(hb1.cell (p := ⟨cb, 1, none⟩) hlt).trans d1, (hb1.cell (p := ⟨cb, 2, none⟩) hlt).trans d2⟩))
        go_wp2
        go_ret2
        rw [HP.out]
        refine ⟨⟨⟨_, rfl, _, rfl, ?_⟩, (HUK.out.drewN (n + 1)).only (Only.ofBelow hb1)⟩, HOK.out.trans (Only.behind (only_drewN _ (n + 1)) ((Only.ofBelow hb1).mono (by simp)))⟩
        rw [rest_take]
    · rw [hl] at hli
      have HLL := hid (fun W => (hli ▸ HL.out W : Calls Tryd.prog 85 #[.int .i64 a] W fun e w' => e = .returned (.bool true) ∧ w' = W))
      have HH := hid hl
      clear hli hl HL
      have hp : p + k < s.size := by
        rcases HUK.out.nil_or with ⟨h, _⟩ | ⟨_, h⟩
        · exact h
        · have := HH.out; rw [h] at this; cases this
      have hf : isLo (rest s p).head? = true := by
        rcases HF.out with ⟨h1, _⟩ | ⟨_, h2⟩
        · have := HH.out; rw [h1, Nat.add_zero] at this; exact this
        · exact h2
      by_cases hk2 : k = 256
      · subst hk2
        have hP : o = (erM s m' (p + 256), .error (erF s m' (p + 256) 72)) := by
          have h1 : fo s m' (p + 256) (namK (256 - 256)) = (erM s m' (p + 256), .error (erF s m' (p + 256) 72)) := (fo_congr (namK_long HH.out)).trans (fo_fails ..)
          rw [← HO.out]
          show fo s m p (look _) = _
          rw [fo_look, hf, if_pos rfl, fo_text, ← HOO.out, h1]
        have HP := hid hP
        clear hP hf
        go_wp2_with (first
          | (go_at_call 60; refine (HA.out _ HUK.out).mono ?_; rintro e w1 ⟨rfl, n, rfl⟩)
          | (go_at_call 85; refine (HLL.out _).mono ?_; rintro e w1 ⟨rfl, rfl⟩))
        refine (wrong_x (HUK.out.drewN n) 72).mono ?_
        rintro e w1 ⟨rfl, hx, hol⟩
        go_wp2
        go_ret2
        rw [HP.out]
        exact ⟨⟨⟨_, rfl, rfl⟩, hx⟩, HOK.out.trans (Only.behind (only_drewN _ _) hol)⟩
      · have hne : ¬ (k : Int) = 256 := by omega
        have hne2 : ¬ (p : Int) + (k : Int) - (p : Int) = 256 := by omega
        have hk3 : 256 - k = (256 - (k + 1)) + 1 := by omega
        have hP : fo s m' (p + k) (namK (256 - k)) = fo s m' (p + k) (andThen skip fun _ _ => namK (256 - (k + 1))) := by rw [hk3]; exact fo_congr (namK_go _ HH.out)
        have HP := hid hP
        have HFF := hid hf
        have hz1 : (p : Int) + (k : Int) ≤ 4294967296 := by omega
        clear hP hf hk3
        rcases hs1 : m'.stepOk 1 with _ | _
        · have HS1 := hid hs1
          clear hs1
          go_wp2_with (first
            | (go_at_call 60; refine (HA.out _ HUK.out).mono ?_; rintro e w1 ⟨rfl, n, rfl⟩)
            | (go_at_call 85; refine (HLL.out _).mono ?_; rintro e w1 ⟨rfl, rfl⟩))
          refine (step_no (HUK.out.drewN n) hp HS1.out).mono ?_
          rintro e w1 ⟨rfl, hx, hol⟩
          go_wp2
          go_ret2
          refine ⟨?_, HOK.out.trans (Only.behind (only_drewN _ _) hol)⟩
          have : o = (m'.step 1, .error (20, 0)) := by
            rw [← HO.out]
            show fo s m p (look _) = _
            rw [fo_look, HFF.out, if_pos rfl, fo_text, ← HOO.out, HP.out, fo_skip_no HUK.out.why hp HS1.out]
          rw [this]
          exact ⟨⟨_, rfl, rfl⟩, hx⟩
        · have HS1 := hid hs1
          clear hs1
          go_wp2_with (first
            | (go_at_call 60; refine (HA.out _ HUK.out).mono ?_; rintro e w1 ⟨rfl, n, rfl⟩)
            | (go_at_call 85; refine (HLL.out _).mono ?_; rintro e w1 ⟨rfl, rfl⟩))
          refine (step_yes (HUK.out.drewN n) hp HS1.out).mono ?_
          rintro e w1 ⟨rfl, hx, hol⟩
          go_wp2
          go_roundw
          case rel =>
            refine ⟨k + 1, m'.step 1, by omega, hx, ?_, .inr ⟨by omega, HFF.out⟩, HOK.out.trans (Only.behind (only_drewN _ _) hol)⟩
            rw [← HOO.out, HP.out, fo_skip_yes HUK.out.why hp HS1.out]
            rfl
          case measure =>
            have e1 := hx.c.cell 2
            have e2 := HUK.out.c.cell 2
            rw [e1, e2]
            simp [ccells, RowKit.intOf]
            omega
end Go.Proofs.YthlbbinlkmchjaaDoor
