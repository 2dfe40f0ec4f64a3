/- The cutter's entity. -/
import Derived.Test.YthlbbinlkmchjaaDoorNumb
namespace Go.Proofs.YthlbbinlkmchjaaDoor
open Go.RowKit

def e0T : ByteArray := { data := #[38, 108, 116, 59] }
def e1T : ByteArray := { data := #[38, 103, 116, 59] }
def e2T : ByteArray := { data := #[38, 97, 109, 112, 59] }
def e3T : ByteArray := { data := #[38, 113, 117, 111, 116, 59] }
def e4T : ByteArray := { data := #[38, 115, 104, 121, 59] }
def e5T : ByteArray := { data := #[38, 110, 98, 115, 112, 59] }
def entA : List (Int × ByteArray) := [(60, e0T), (62, e1T), (38, e2T), (34, e3T), (173, e4T), (160, e5T)]
/-- the library's tables and the program's own -/
structure Tc (w : World) : Prop where
  tb : Tb w
  n0 : w.cell? ⟨0, 0, none⟩ = some (.int .i64 60)
  s0 : w.cell? ⟨0, 1, none⟩ = some (.string e0T)
  n1 : w.cell? ⟨0, 2, none⟩ = some (.int .i64 62)
  s1 : w.cell? ⟨0, 3, none⟩ = some (.string e1T)
  n2 : w.cell? ⟨0, 4, none⟩ = some (.int .i64 38)
  s2 : w.cell? ⟨0, 5, none⟩ = some (.string e2T)
  n3 : w.cell? ⟨0, 6, none⟩ = some (.int .i64 34)
  s3 : w.cell? ⟨0, 7, none⟩ = some (.string e3T)
  n4 : w.cell? ⟨0, 8, none⟩ = some (.int .i64 173)
  s4 : w.cell? ⟨0, 9, none⟩ = some (.string e4T)
  n5 : w.cell? ⟨0, 10, none⟩ = some (.int .i64 160)
  s5 : w.cell? ⟨0, 11, none⟩ = some (.string e5T)
theorem entIdx0 (w : World) : (Instr.index 96 (.agg #[.int .i64 60, .string e0T, .int .i64 62, .string e1T, .int .i64 38, .string e2T, .int .i64 34, .string e3T, .int .i64 173, .string e4T, .int .i64 160, .string e5T]) (.int .i64 0)).run Tryd.prog w = .ok (.agg #[.int .i64 60, .string e0T]) w := by kernel_rfl
theorem entIdx1 (w : World) : (Instr.index 96 (.agg #[.int .i64 60, .string e0T, .int .i64 62, .string e1T, .int .i64 38, .string e2T, .int .i64 34, .string e3T, .int .i64 173, .string e4T, .int .i64 160, .string e5T]) (.int .i64 1)).run Tryd.prog w = .ok (.agg #[.int .i64 62, .string e1T]) w := by kernel_rfl
theorem entIdx2 (w : World) : (Instr.index 96 (.agg #[.int .i64 60, .string e0T, .int .i64 62, .string e1T, .int .i64 38, .string e2T, .int .i64 34, .string e3T, .int .i64 173, .string e4T, .int .i64 160, .string e5T]) (.int .i64 2)).run Tryd.prog w = .ok (.agg #[.int .i64 38, .string e2T]) w := by kernel_rfl
theorem entIdx3 (w : World) : (Instr.index 96 (.agg #[.int .i64 60, .string e0T, .int .i64 62, .string e1T, .int .i64 38, .string e2T, .int .i64 34, .string e3T, .int .i64 173, .string e4T, .int .i64 160, .string e5T]) (.int .i64 3)).run Tryd.prog w = .ok (.agg #[.int .i64 34, .string e3T]) w := by kernel_rfl
theorem entIdx4 (w : World) : (Instr.index 96 (.agg #[.int .i64 60, .string e0T, .int .i64 62, .string e1T, .int .i64 38, .string e2T, .int .i64 34, .string e3T, .int .i64 173, .string e4T, .int .i64 160, .string e5T]) (.int .i64 4)).run Tryd.prog w = .ok (.agg #[.int .i64 173, .string e4T]) w := by kernel_rfl
theorem entIdx5 (w : World) : (Instr.index 96 (.agg #[.int .i64 60, .string e0T, .int .i64 62, .string e1T, .int .i64 38, .string e2T, .int .i64 34, .string e3T, .int .i64 173, .string e4T, .int .i64 160, .string e5T]) (.int .i64 5)).run Tryd.prog w = .ok (.agg #[.int .i64 160, .string e5T]) w := by kernel_rfl
theorem Tc.only {L : List Nat} {w w' : World} (h : Tc w) (k : Only L w w') (hL : ∀ i ∈ L, 3 ≤ i) : Tc w' := by
  have hs := h.tb.size
  have hb : w'.heap[0]? = w.heap[0]? := k.block 0 (by omega) (fun hm => by have := hL 0 hm; omega)
  exact ⟨h.tb.only k hL, (World.cell?_of_block (a := ⟨0, 0, none⟩) hb).trans h.n0, (World.cell?_of_block (a := ⟨0, 1, none⟩) hb).trans h.s0, (World.cell?_of_block (a := ⟨0, 2, none⟩) hb).trans h.n1, (World.cell?_of_block (a := ⟨0, 3, none⟩) hb).trans h.s1, (World.cell?_of_block (a := ⟨0, 4, none⟩) hb).trans h.n2, (World.cell?_of_block (a := ⟨0, 5, none⟩) hb).trans h.s2, (World.cell?_of_block (a := ⟨0, 6, none⟩) hb).trans h.n3, (World.cell?_of_block (a := ⟨0, 7, none⟩) hb).trans h.s3, (World.cell?_of_block (a := ⟨0, 8, none⟩) hb).trans h.n4, (World.cell?_of_block (a := ⟨0, 9, none⟩) hb).trans h.s4, (World.cell?_of_block (a := ⟨0, 10, none⟩) hb).trans h.n5, (World.cell?_of_block (a := ⟨0, 11, none⟩) hb).trans h.s5⟩
theorem fo_then_ok {α β : Type} {s : ByteArray} {m : M} (hw : m.why = 0) {p : Nat} {P : Pz α} {f : α → Nat → Pz β} (hP : Fair P) {m1 : M} {a : α} {q : Nat} (h : fo s m p P = (m1, .ok (a, q))) :
    fo s m p (andThen P f) = fo s m1 q (f a (q - p)) := by
  have hq : p ≤ q := by obtain ⟨n, _, h2, _⟩ := fin_ok hw h; omega
  unfold fo at h ⊢
  rw [← rest_length] at h ⊢
  rw [fin_then_ok hw hP h, rest_drop, rest_length, show p + (q - p) = q by omega, show s.size - p - (q - p) = s.size - q by omega]
theorem fo_then_bad {α β : Type} {s : ByteArray} {m : M} (hw : m.why = 0) {p : Nat} {P : Pz α} {f : α → Nat → Pz β} (hP : Fair P) {m1 : M} {F : Int × Int} (h : fo s m p P = (m1, .error F)) :
    fo s m p (andThen P f) = (m1, .error F) := by
  unfold fo at h ⊢
  rw [← rest_length] at h ⊢
  exact fin_then_bad hw hP h
def entC : Nat → Int
  | 0 => 108
  | 1 => 103
  | 2 => 97
  | 3 => 113
  | 4 => 115
  | 5 => 110
  | _ => -2
theorem entOf_none {b : Option Nat} (h : ∀ j, j < 6 → aheadI b ≠ entC j) : entOf b = none := by
  rcases b with _ | b
  · rfl
  · unfold entOf
    rw [List.find?_eq_none]
    intro e he
    simp only [ents, List.mem_cons, List.not_mem_nil, or_false] at he
    have h0 := h 0 (by decide)
    have h1 := h 1 (by decide)
    have h2 := h 2 (by decide)
    have h3 := h 3 (by decide)
    have h4 := h 4 (by decide)
    have h5 := h 5 (by decide)
    simp only [aheadI, entC] at h0 h1 h2 h3 h4 h5
    rcases he with rfl | rfl | rfl | rfl | rfl | rfl
    all_goals
      simp only [List.head?_cons, beq_iff_eq, Option.some.injEq]
      omega
def bodyP (b : Option Nat) : Pz Nat := match entOf b with
  | some e => andThen (word 71 e.2) (fun _ _ => done e.1)
  | none => andThen (word 71 [35, 120]) fun _ _ => numK 6 0

set_option maxRecDepth 100000 in
set_option maxHeartbeats 8000000 in
theorem entity_c {w : World} {cb mb : Nat} {s : ByteArray} {p : Nat} {v : Value} {m : M} (h : Cu w cb mb s p v m) (hT : Tc w) (h3 : 3 ≤ cb ∧ 3 ≤ mb) (hp : p < s.size) :
    Calls Tryd.prog 99 #[.pointer (some ⟨cb, 0, none⟩)] w fun e w' => PV evI ezI w' cb mb s v (fo s m p entP) e ∧ Only [cb, mb] w w' := by
  have HU := hid h
  have HT := hid hT
  have HW := hid h.why
  have HC := hid h3
  rcases hs1 : m.stepOk 1 with _ | _
  · have HS1 := hid hs1
    have HP := hid (fo_skip_no (α := Nat) h.why hp hs1 (fun _ _ => look bodyP))
    clear hs1 h hT h3
    go_enter Tryd.func99, Tryd.ntmps99
    go_wp2_with fail
    refine (step_no HU.out hp HS1.out).mono ?_
    rintro e w1 ⟨rfl, hx, hol⟩
    go_wp2
    go_ret2
    rw [show fo s m p entP = _ from HP.out]
    exact ⟨⟨⟨_, rfl, 0, rfl, by omega, by omega⟩, hx⟩, hol⟩
  · have HS1 := hid hs1
    obtain ⟨o, ho⟩ : ∃ o : O Nat, fo s m p entP = o := ⟨_, rfl⟩
    have HP := hid (fo_skip_yes (α := Nat) h.why hp hs1 (fun _ _ => look bodyP))
    rw [ho]
    have HO : Hid (fo s (m.step 1) (p + 1) (bodyP (rest s (p + 1)).head?) = o) := HP.out.symm.trans ho
    clear hs1 h hT h3 ho HP
    go_enter Tryd.func99, Tryd.ntmps99
    go_wp2_with fail
    refine (step_yes HU.out hp HS1.out).mono ?_
    rintro e w1 ⟨rfl, hx, hol⟩
    have HU1 := hid hx
    have HO1 := hid hol
    have hl3 : ∀ i ∈ [cb, mb], 3 ≤ i := by have := HC.out; simp; exact this
    have HL3 := hid hl3
    have hT1 := HT.out.only hol hl3
    have HT1 := hid hT1
    obtain ⟨-, n0, s0, n1, s1, n2, s2, n3, s3, n4, s4, n5, s5⟩ := hT1
    clear hx hol hl3
    obtain ⟨b, hb⟩ : ∃ b, (rest s (p + 1)).head? = b := ⟨_, rfl⟩
    rw [hb] at HO
    obtain ⟨a, ha⟩ : ∃ a, aheadI b = a := ⟨_, rfl⟩
    have HA := hid (fun W (h : Cu W cb mb s (p + 1) v (m.step 1)) => (by rw [← ha, ← hb]; exact ahead_any h : Calls Tryd.prog 60 #[.pointer (some ⟨cb, 0, none⟩)] W fun e w' => e = .returned (.int .i64 a) ∧ ∃ n, w' = W.drewN n))
    have HAB := hid ha
    clear ha hb
    go_wp2
    clear n0 n1 n2 n3 n4 n5 s0 s1 s2 s3 s4 s5
    go_loopw [10] (fun i wr => ∃ k : Nat, k ≤ 6 ∧ i = .int .i64 k ∧ (∀ j, j < k → a ≠ entC j) ∧ Cu wr cb mb s (p + 1) v (m.step 1) ∧ Only [cb, mb] w wr) (fun i _ => 7 - (RowKit.intOf i).toNat)
    case atStart => exact ⟨0, by omega, rfl, fun j hj => absurd hj (Nat.not_lt_zero _), HU1.out, HO1.out⟩
    case round =>
      obtain ⟨k, hk, rfl, hall, hu, ho⟩ := hrel
      have HALL := hid hall
      have HUK := hid hu
      have HOK := hid ho
      clear hall hu ho
      rcases (by omega : k = 0 ∨ k = 1 ∨ k = 2 ∨ k = 3 ∨ k = 4 ∨ k = 5 ∨ k = 6) with rfl | rfl | rfl | rfl | rfl | rfl | rfl
      · by_cases heq : a = 108
        · subst heq
          have hof : bodyP b = andThen (word 71 [108, 116, 59]) (fun _ _ => done 60) := by
            have : b = some 108 := by
              have := HAB.out
              rcases b with _ | b
              · simp [aheadI] at this
              · simp only [aheadI] at this; congr 1; omega
            rw [this]; rfl
          have HOF := hid hof
          clear hof
          have hix := entIdx0
          have hsz : (1 : Int) < (e0T.size : Int) := by decide
          have hsz1 : (1 : Int) ≤ (e0T.size : Int) := by decide
          have hge : ∀ h, (e0T[1]'h).toNat = 108 := fun _ => rfl
          rcases hwd : fo s (m.step 1) (p + 1) (word 71 [108, 116, 59]) with ⟨m2, F | ⟨u, q⟩⟩
          · have HF := hid (HO.out.symm.trans (HOF.out ▸ fo_then_bad (f := fun _ _ => done 60) HU1.out.why (fair_word _ _) hwd))
            have HWD := hid (fun W (t : ByteArray) (h : Cu W cb mb s (p + 1) v (m.step 1)) (hb : bl t = [108, 116, 59]) (ht : t.size ≤ 256) => (by
              have := word_c h t ht 71
              rw [hb, hwd] at this
              exact this : Calls Tryd.prog 97 #[.pointer (some ⟨cb, 0, none⟩), .string t, .int .i64 71] W fun e w' => (e = .returned (.bool false) ∧ Cx w' cb mb s m2 F) ∧ Only [cb, mb] W w'))
            clear hwd
            go_wp2
            go_quiet ((go_at_call 60; exact Calls.quiet_of (HA.out _ ((HUK.out.alloc _).drewN _))))
            go_wp2
            have hB := (Blk.new wr #[.int .i64 60, .string e0T] 95 rfl).drewN nq
            have hS0 := And.intro (hB.cell 0) (hB.cell 1)
            have hCU := (HUK.out.alloc (.cells #[.int .i64 60, .string e0T] 95)).drewN nq
            have HCU := hid hCU
            have hne2 : wr.heap.size ∉ [cb, mb] := by
              have h1 := HUK.out.c.lt; have h2 := HUK.out.mt.lt
              simp; omega
            simp only [List.getElem?_cons_zero, List.getElem?_cons_succ] at hS0
            clear hCU
            go_region_held3 (fun w' => w'.cell? ⟨wr.heap.size, 0, none⟩ = some (.int .i64 60) ∧ w'.cell? ⟨wr.heap.size, 1, none⟩ = some (.string e0T)) (first | exact hS1 | exact hS0)
              (first | (go_at_call 97; refine (HWD.out _ _ (by exact HCU.out.drewN 1) (by decide) (by decide)).mono ?_; rintro e w2 ⟨⟨rfl, hx2⟩, ho2⟩; have hb2 := ho2.blk hB hne2; have hS1 := And.intro (hb2.cell 0) (hb2.cell 1); simp only [List.getElem?_cons_zero, List.getElem?_cons_succ] at hS1))
            go_wp2
            go_ret2
            rw [HF.out]
            exact ⟨⟨⟨_, rfl, 60, rfl, by decide, by decide⟩, hx2⟩, HOK.out.trans (Only.behind (((Only.refl [] wr).alloc _).drewN _) ho2)⟩
          · have HWD := hid (fun W (t : ByteArray) (h : Cu W cb mb s (p + 1) v (m.step 1)) (hb : bl t = [108, 116, 59]) (ht : t.size ≤ 256) => (by
              have := word_c h t ht 71
              rw [hb, hwd] at this
              exact this : Calls Tryd.prog 97 #[.pointer (some ⟨cb, 0, none⟩), .string t, .int .i64 71] W fun e w' => (e = .returned (.bool true) ∧ Cu w' cb mb s q v m2) ∧ Only [cb, mb] W w'))
            have HF := hid (HO.out.symm.trans (HOF.out ▸ fo_then_ok (f := fun _ _ => done 60) HU1.out.why (fair_word _ _) hwd))
            clear hwd
            go_wp2
            go_quiet ((go_at_call 60; exact Calls.quiet_of (HA.out _ ((HUK.out.alloc _).drewN _))))
            go_wp2
            have hB := (Blk.new wr #[.int .i64 60, .string e0T] 95 rfl).drewN nq
            have hS0 := And.intro (hB.cell 0) (hB.cell 1)
            have hCU := (HUK.out.alloc (.cells #[.int .i64 60, .string e0T] 95)).drewN nq
            have HCU := hid hCU
            have hne2 : wr.heap.size ∉ [cb, mb] := by
              have h1 := HUK.out.c.lt; have h2 := HUK.out.mt.lt
              simp; omega
            simp only [List.getElem?_cons_zero, List.getElem?_cons_succ] at hS0
            clear hCU
            go_region_held3 (fun w' => w'.cell? ⟨wr.heap.size, 0, none⟩ = some (.int .i64 60) ∧ w'.cell? ⟨wr.heap.size, 1, none⟩ = some (.string e0T)) (first | exact hS1 | exact hS0)
              (first | (go_at_call 97; refine (HWD.out _ _ (by exact HCU.out.drewN 1) (by decide) (by decide)).mono ?_; rintro e w2 ⟨⟨rfl, hx2⟩, ho2⟩; have hb2 := ho2.blk hB hne2; have hS1 := And.intro (hb2.cell 0) (hb2.cell 1); simp only [List.getElem?_cons_zero, List.getElem?_cons_succ] at hS1))
            go_wp2
            go_ret2
            rw [HF.out, fo_done hx2.ok hx2.why]
            exact ⟨⟨⟨_, rfl, rfl⟩, hx2⟩, HOK.out.trans (Only.behind (((Only.refl [] wr).alloc _).drewN _) ho2)⟩
        · have hne : (a == 108) = false := by simpa using heq
          have hix := entIdx0
          have hsz : (1 : Int) < (e0T.size : Int) := by decide
          have hge : ∀ h, (e0T[1]'h).toNat = 108 := fun _ => rfl
          go_wp2
          go_quiet ((go_at_call 60; exact Calls.quiet_of (HA.out _ ((HUK.out.alloc _).drewN _))))
          go_wp2
          go_roundw
          case rel =>
            refine ⟨0 + 1, by omega, by go_num, fun j hj => ?_, (HUK.out.alloc _).drewN _, HOK.out.trans ((((Only.refl _ _).alloc _).drewN _))⟩
            by_cases hj2 : j = 0
            · subst hj2; exact heq
            · exact HALL.out j (by omega)
          case measure => simp [RowKit.intOf]
      · by_cases heq : a = 103
        · subst heq
          have hof : bodyP b = andThen (word 71 [103, 116, 59]) (fun _ _ => done 62) := by
            have : b = some 103 := by
              have := HAB.out
              rcases b with _ | b
              · simp [aheadI] at this
              · simp only [aheadI] at this; congr 1; omega
            rw [this]; rfl
          have HOF := hid hof
          clear hof
          have hix := entIdx1
          have hsz : (1 : Int) < (e1T.size : Int) := by decide
          have hsz1 : (1 : Int) ≤ (e1T.size : Int) := by decide
          have hge : ∀ h, (e1T[1]'h).toNat = 103 := fun _ => rfl
          rcases hwd : fo s (m.step 1) (p + 1) (word 71 [103, 116, 59]) with ⟨m2, F | ⟨u, q⟩⟩
          · have HF := hid (HO.out.symm.trans (HOF.out ▸ fo_then_bad (f := fun _ _ => done 62) HU1.out.why (fair_word _ _) hwd))
            have HWD := hid (fun W (t : ByteArray) (h : Cu W cb mb s (p + 1) v (m.step 1)) (hb : bl t = [103, 116, 59]) (ht : t.size ≤ 256) => (by
              have := word_c h t ht 71
              rw [hb, hwd] at this
              exact this : Calls Tryd.prog 97 #[.pointer (some ⟨cb, 0, none⟩), .string t, .int .i64 71] W fun e w' => (e = .returned (.bool false) ∧ Cx w' cb mb s m2 F) ∧ Only [cb, mb] W w'))
            clear hwd
            go_wp2
            go_quiet ((go_at_call 60; exact Calls.quiet_of (HA.out _ ((HUK.out.alloc _).drewN _))))
            go_wp2
            have hB := (Blk.new wr #[.int .i64 62, .string e1T] 95 rfl).drewN nq
            have hS0 := And.intro (hB.cell 0) (hB.cell 1)
            have hCU := (HUK.out.alloc (.cells #[.int .i64 62, .string e1T] 95)).drewN nq
            have HCU := hid hCU
            have hne2 : wr.heap.size ∉ [cb, mb] := by
              have h1 := HUK.out.c.lt; have h2 := HUK.out.mt.lt
              simp; omega
            simp only [List.getElem?_cons_zero, List.getElem?_cons_succ] at hS0
            clear hCU
            go_region_held3 (fun w' => w'.cell? ⟨wr.heap.size, 0, none⟩ = some (.int .i64 62) ∧ w'.cell? ⟨wr.heap.size, 1, none⟩ = some (.string e1T)) (first | exact hS1 | exact hS0)
              (first | (go_at_call 97; refine (HWD.out _ _ (by exact HCU.out.drewN 1) (by decide) (by decide)).mono ?_; rintro e w2 ⟨⟨rfl, hx2⟩, ho2⟩; have hb2 := ho2.blk hB hne2; have hS1 := And.intro (hb2.cell 0) (hb2.cell 1); simp only [List.getElem?_cons_zero, List.getElem?_cons_succ] at hS1))
            go_wp2
            go_ret2
            rw [HF.out]
            exact ⟨⟨⟨_, rfl, 62, rfl, by decide, by decide⟩, hx2⟩, HOK.out.trans (Only.behind (((Only.refl [] wr).alloc _).drewN _) ho2)⟩
          · have HWD := hid (fun W (t : ByteArray) (h : Cu W cb mb s (p + 1) v (m.step 1)) (hb : bl t = [103, 116, 59]) (ht : t.size ≤ 256) => (by
              have := word_c h t ht 71
              rw [hb, hwd] at this
              exact this : Calls Tryd.prog 97 #[.pointer (some ⟨cb, 0, none⟩), .string t, .int .i64 71] W fun e w' => (e = .returned (.bool true) ∧ Cu w' cb mb s q v m2) ∧ Only [cb, mb] W w'))
            have HF := hid (HO.out.symm.trans (HOF.out ▸ fo_then_ok (f := fun _ _ => done 62) HU1.out.why (fair_word _ _) hwd))
            clear hwd
            go_wp2
            go_quiet ((go_at_call 60; exact Calls.quiet_of (HA.out _ ((HUK.out.alloc _).drewN _))))
            go_wp2
            have hB := (Blk.new wr #[.int .i64 62, .string e1T] 95 rfl).drewN nq
            have hS0 := And.intro (hB.cell 0) (hB.cell 1)
            have hCU := (HUK.out.alloc (.cells #[.int .i64 62, .string e1T] 95)).drewN nq
            have HCU := hid hCU
            have hne2 : wr.heap.size ∉ [cb, mb] := by
              have h1 := HUK.out.c.lt; have h2 := HUK.out.mt.lt
              simp; omega
            simp only [List.getElem?_cons_zero, List.getElem?_cons_succ] at hS0
            clear hCU
            go_region_held3 (fun w' => w'.cell? ⟨wr.heap.size, 0, none⟩ = some (.int .i64 62) ∧ w'.cell? ⟨wr.heap.size, 1, none⟩ = some (.string e1T)) (first | exact hS1 | exact hS0)
              (first | (go_at_call 97; refine (HWD.out _ _ (by exact HCU.out.drewN 1) (by decide) (by decide)).mono ?_; rintro e w2 ⟨⟨rfl, hx2⟩, ho2⟩; have hb2 := ho2.blk hB hne2; have hS1 := And.intro (hb2.cell 0) (hb2.cell 1); simp only [List.getElem?_cons_zero, List.getElem?_cons_succ] at hS1))
            go_wp2
            go_ret2
            rw [HF.out, fo_done hx2.ok hx2.why]
            exact ⟨⟨⟨_, rfl, rfl⟩, hx2⟩, HOK.out.trans (Only.behind (((Only.refl [] wr).alloc _).drewN _) ho2)⟩
        · have hne : (a == 103) = false := by simpa using heq
          have hix := entIdx1
          have hsz : (1 : Int) < (e1T.size : Int) := by decide
          have hge : ∀ h, (e1T[1]'h).toNat = 103 := fun _ => rfl
          go_wp2
          go_quiet ((go_at_call 60; exact Calls.quiet_of (HA.out _ ((HUK.out.alloc _).drewN _))))
          go_wp2
          go_roundw
          case rel =>
            refine ⟨1 + 1, by omega, by go_num, fun j hj => ?_, (HUK.out.alloc _).drewN _, HOK.out.trans ((((Only.refl _ _).alloc _).drewN _))⟩
            by_cases hj2 : j = 1
            · subst hj2; exact heq
            · exact HALL.out j (by omega)
          case measure => simp [RowKit.intOf]
      · by_cases heq : a = 97
        · subst heq
          have hof : bodyP b = andThen (word 71 [97, 109, 112, 59]) (fun _ _ => done 38) := by
            have : b = some 97 := by
              have := HAB.out
              rcases b with _ | b
              · simp [aheadI] at this
              · simp only [aheadI] at this; congr 1; omega
            rw [this]; rfl
          have HOF := hid hof
          clear hof
          have hix := entIdx2
          have hsz : (1 : Int) < (e2T.size : Int) := by decide
          have hsz1 : (1 : Int) ≤ (e2T.size : Int) := by decide
          have hge : ∀ h, (e2T[1]'h).toNat = 97 := fun _ => rfl
          rcases hwd : fo s (m.step 1) (p + 1) (word 71 [97, 109, 112, 59]) with ⟨m2, F | ⟨u, q⟩⟩
          · have HF := hid (HO.out.symm.trans (HOF.out ▸ fo_then_bad (f := fun _ _ => done 38) HU1.out.why (fair_word _ _) hwd))
            have HWD := hid (fun W (t : ByteArray) (h : Cu W cb mb s (p + 1) v (m.step 1)) (hb : bl t = [97, 109, 112, 59]) (ht : t.size ≤ 256) => (by
              have := word_c h t ht 71
              rw [hb, hwd] at this
              exact this : Calls Tryd.prog 97 #[.pointer (some ⟨cb, 0, none⟩), .string t, .int .i64 71] W fun e w' => (e = .returned (.bool false) ∧ Cx w' cb mb s m2 F) ∧ Only [cb, mb] W w'))
            clear hwd
            go_wp2
            go_quiet ((go_at_call 60; exact Calls.quiet_of (HA.out _ ((HUK.out.alloc _).drewN _))))
            go_wp2
            have hB := (Blk.new wr #[.int .i64 38, .string e2T] 95 rfl).drewN nq
            have hS0 := And.intro (hB.cell 0) (hB.cell 1)
            have hCU := (HUK.out.alloc (.cells #[.int .i64 38, .string e2T] 95)).drewN nq
            have HCU := hid hCU
            have hne2 : wr.heap.size ∉ [cb, mb] := by
              have h1 := HUK.out.c.lt; have h2 := HUK.out.mt.lt
              simp; omega
            simp only [List.getElem?_cons_zero, List.getElem?_cons_succ] at hS0
            clear hCU
            go_region_held3 (fun w' => w'.cell? ⟨wr.heap.size, 0, none⟩ = some (.int .i64 38) ∧ w'.cell? ⟨wr.heap.size, 1, none⟩ = some (.string e2T)) (first | exact hS1 | exact hS0)
              (first | (go_at_call 97; refine (HWD.out _ _ (by exact HCU.out.drewN 1) (by decide) (by decide)).mono ?_; rintro e w2 ⟨⟨rfl, hx2⟩, ho2⟩; have hb2 := ho2.blk hB hne2; have hS1 := And.intro (hb2.cell 0) (hb2.cell 1); simp only [List.getElem?_cons_zero, List.getElem?_cons_succ] at hS1))
            go_wp2
            go_ret2
            rw [HF.out]
            exact ⟨⟨⟨_, rfl, 38, rfl, by decide, by decide⟩, hx2⟩, HOK.out.trans (Only.behind (((Only.refl [] wr).alloc _).drewN _) ho2)⟩
          · have HWD := hid (fun W (t : ByteArray) (h : Cu W cb mb s (p + 1) v (m.step 1)) (hb : bl t = [97, 109, 112, 59]) (ht : t.size ≤ 256) => (by
              have := word_c h t ht 71
              rw [hb, hwd] at this
              exact this : Calls Tryd.prog 97 #[.pointer (some ⟨cb, 0, none⟩), .string t, .int .i64 71] W fun e w' => (e = .returned (.bool true) ∧ Cu w' cb mb s q v m2) ∧ Only [cb, mb] W w'))
            have HF := hid (HO.out.symm.trans (HOF.out ▸ fo_then_ok (f := fun _ _ => done 38) HU1.out.why (fair_word _ _) hwd))
            clear hwd
            go_wp2
            go_quiet ((go_at_call 60; exact Calls.quiet_of (HA.out _ ((HUK.out.alloc _).drewN _))))
            go_wp2
            have hB := (Blk.new wr #[.int .i64 38, .string e2T] 95 rfl).drewN nq
            have hS0 := And.intro (hB.cell 0) (hB.cell 1)
            have hCU := (HUK.out.alloc (.cells #[.int .i64 38, .string e2T] 95)).drewN nq
            have HCU := hid hCU
            have hne2 : wr.heap.size ∉ [cb, mb] := by
              have h1 := HUK.out.c.lt; have h2 := HUK.out.mt.lt
              simp; omega
            simp only [List.getElem?_cons_zero, List.getElem?_cons_succ] at hS0
            clear hCU
            go_region_held3 (fun w' => w'.cell? ⟨wr.heap.size, 0, none⟩ = some (.int .i64 38) ∧ w'.cell? ⟨wr.heap.size, 1, none⟩ = some (.string e2T)) (first | exact hS1 | exact hS0)
              (first | (go_at_call 97; refine (HWD.out _ _ (by exact HCU.out.drewN 1) (by decide) (by decide)).mono ?_; rintro e w2 ⟨⟨rfl, hx2⟩, ho2⟩; have hb2 := ho2.blk hB hne2; have hS1 := And.intro (hb2.cell 0) (hb2.cell 1); simp only [List.getElem?_cons_zero, List.getElem?_cons_succ] at hS1))
            go_wp2
            go_ret2
            rw [HF.out, fo_done hx2.ok hx2.why]
            exact ⟨⟨⟨_, rfl, rfl⟩, hx2⟩, HOK.out.trans (Only.behind (((Only.refl [] wr).alloc _).drewN _) ho2)⟩
        · have hne : (a == 97) = false := by simpa using heq
          have hix := entIdx2
          have hsz : (1 : Int) < (e2T.size : Int) := by decide
          have hge : ∀ h, (e2T[1]'h).toNat = 97 := fun _ => rfl
          go_wp2
          go_quiet ((go_at_call 60; exact Calls.quiet_of (HA.out _ ((HUK.out.alloc _).drewN _))))
          go_wp2
          go_roundw
          case rel =>
            refine ⟨2 + 1, by omega, by go_num, fun j hj => ?_, (HUK.out.alloc _).drewN _, HOK.out.trans ((((Only.refl _ _).alloc _).drewN _))⟩
            by_cases hj2 : j = 2
            · subst hj2; exact heq
            · exact HALL.out j (by omega)
          case measure => simp [RowKit.intOf]
      · by_cases heq : a = 113
        · subst heq
          have hof : bodyP b = andThen (word 71 [113, 117, 111, 116, 59]) (fun _ _ => done 34) := by
            have : b = some 113 := by
              have := HAB.out
              rcases b with _ | b
              · simp [aheadI] at this
              · simp only [aheadI] at this; congr 1; omega
            rw [this]; rfl
          have HOF := hid hof
          clear hof
          have hix := entIdx3
          have hsz : (1 : Int) < (e3T.size : Int) := by decide
          have hsz1 : (1 : Int) ≤ (e3T.size : Int) := by decide
          have hge : ∀ h, (e3T[1]'h).toNat = 113 := fun _ => rfl
          rcases hwd : fo s (m.step 1) (p + 1) (word 71 [113, 117, 111, 116, 59]) with ⟨m2, F | ⟨u, q⟩⟩
          · have HF := hid (HO.out.symm.trans (HOF.out ▸ fo_then_bad (f := fun _ _ => done 34) HU1.out.why (fair_word _ _) hwd))
            have HWD := hid (fun W (t : ByteArray) (h : Cu W cb mb s (p + 1) v (m.step 1)) (hb : bl t = [113, 117, 111, 116, 59]) (ht : t.size ≤ 256) => (by
              have := word_c h t ht 71
              rw [hb, hwd] at this
              exact this : Calls Tryd.prog 97 #[.pointer (some ⟨cb, 0, none⟩), .string t, .int .i64 71] W fun e w' => (e = .returned (.bool false) ∧ Cx w' cb mb s m2 F) ∧ Only [cb, mb] W w'))
            clear hwd
            go_wp2
            go_quiet ((go_at_call 60; exact Calls.quiet_of (HA.out _ ((HUK.out.alloc _).drewN _))))
            go_wp2
            have hB := (Blk.new wr #[.int .i64 34, .string e3T] 95 rfl).drewN nq
            have hS0 := And.intro (hB.cell 0) (hB.cell 1)
            have hCU := (HUK.out.alloc (.cells #[.int .i64 34, .string e3T] 95)).drewN nq
            have HCU := hid hCU
            have hne2 : wr.heap.size ∉ [cb, mb] := by
              have h1 := HUK.out.c.lt; have h2 := HUK.out.mt.lt
              simp; omega
            simp only [List.getElem?_cons_zero, List.getElem?_cons_succ] at hS0
            clear hCU
            go_region_held3 (fun w' => w'.cell? ⟨wr.heap.size, 0, none⟩ = some (.int .i64 34) ∧ w'.cell? ⟨wr.heap.size, 1, none⟩ = some (.string e3T)) (first | exact hS1 | exact hS0)
              (first | (go_at_call 97; refine (HWD.out _ _ (by exact HCU.out.drewN 1) (by decide) (by decide)).mono ?_; rintro e w2 ⟨⟨rfl, hx2⟩, ho2⟩; have hb2 := ho2.blk hB hne2; have hS1 := And.intro (hb2.cell 0) (hb2.cell 1); simp only [List.getElem?_cons_zero, List.getElem?_cons_succ] at hS1))
            go_wp2
            go_ret2
            rw [HF.out]
            exact ⟨⟨⟨_, rfl, 34, rfl, by decide, by decide⟩, hx2⟩, HOK.out.trans (Only.behind (((Only.refl [] wr).alloc _).drewN _) ho2)⟩
          · have HWD := hid (fun W (t : ByteArray) (h : Cu W cb mb s (p + 1) v (m.step 1)) (hb : bl t = [113, 117, 111, 116, 59]) (ht : t.size ≤ 256) => (by
              have := word_c h t ht 71
              rw [hb, hwd] at this
              exact this : Calls Tryd.prog 97 #[.pointer (some ⟨cb, 0, none⟩), .string t, .int .i64 71] W fun e w' => (e = .returned (.bool true) ∧ Cu w' cb mb s q v m2) ∧ Only [cb, mb] W w'))
            have HF := hid (HO.out.symm.trans (HOF.out ▸ fo_then_ok (f := fun _ _ => done 34) HU1.out.why (fair_word _ _) hwd))
            clear hwd
            go_wp2
            go_quiet ((go_at_call 60; exact Calls.quiet_of (HA.out _ ((HUK.out.alloc _).drewN _))))
            go_wp2
            have hB := (Blk.new wr #[.int .i64 34, .string e3T] 95 rfl).drewN nq
            have hS0 := And.intro (hB.cell 0) (hB.cell 1)
            have hCU := (HUK.out.alloc (.cells #[.int .i64 34, .string e3T] 95)).drewN nq
            have HCU := hid hCU
            have hne2 : wr.heap.size ∉ [cb, mb] := by
              have h1 := HUK.out.c.lt; have h2 := HUK.out.mt.lt
              simp; omega
            simp only [List.getElem?_cons_zero, List.getElem?_cons_succ] at hS0
            clear hCU
            go_region_held3 (fun w' => w'.cell? ⟨wr.heap.size, 0, none⟩ = some (.int .i64 34) ∧ w'.cell? ⟨wr.heap.size, 1, none⟩ = some (.string e3T)) (first | exact hS1 | exact hS0)
              (first | (go_at_call 97; refine (HWD.out _ _ (by exact HCU.out.drewN 1) (by decide) (by decide)).mono ?_; rintro e w2 ⟨⟨rfl, hx2⟩, ho2⟩; have hb2 := ho2.blk hB hne2; have hS1 := And.intro (hb2.cell 0) (hb2.cell 1); simp only [List.getElem?_cons_zero, List.getElem?_cons_succ] at hS1))
            go_wp2
            go_ret2
            rw [HF.out, fo_done hx2.ok hx2.why]
            exact ⟨⟨⟨_, rfl, rfl⟩, hx2⟩, HOK.out.trans (Only.behind (((Only.refl [] wr).alloc _).drewN _) ho2)⟩
        · have hne : (a == 113) = false := by simpa using heq
          have hix := entIdx3
          have hsz : (1 : Int) < (e3T.size : Int) := by decide
          have hge : ∀ h, (e3T[1]'h).toNat = 113 := fun _ => rfl
          go_wp2
          go_quiet ((go_at_call 60; exact Calls.quiet_of (HA.out _ ((HUK.out.alloc _).drewN _))))
          go_wp2
          go_roundw
          case rel =>
            refine ⟨3 + 1, by omega, by go_num, fun j hj => ?_, (HUK.out.alloc _).drewN _, HOK.out.trans ((((Only.refl _ _).alloc _).drewN _))⟩
            by_cases hj2 : j = 3
            · subst hj2; exact heq
            · exact HALL.out j (by omega)
          case measure => simp [RowKit.intOf]
      · by_cases heq : a = 115
        · subst heq
          have hof : bodyP b = andThen (word 71 [115, 104, 121, 59]) (fun _ _ => done 173) := by
            have : b = some 115 := by
              have := HAB.out
              rcases b with _ | b
              · simp [aheadI] at this
              · simp only [aheadI] at this; congr 1; omega
            rw [this]; rfl
          have HOF := hid hof
          clear hof
          have hix := entIdx4
          have hsz : (1 : Int) < (e4T.size : Int) := by decide
          have hsz1 : (1 : Int) ≤ (e4T.size : Int) := by decide
          have hge : ∀ h, (e4T[1]'h).toNat = 115 := fun _ => rfl
          rcases hwd : fo s (m.step 1) (p + 1) (word 71 [115, 104, 121, 59]) with ⟨m2, F | ⟨u, q⟩⟩
          · have HF := hid (HO.out.symm.trans (HOF.out ▸ fo_then_bad (f := fun _ _ => done 173) HU1.out.why (fair_word _ _) hwd))
            have HWD := hid (fun W (t : ByteArray) (h : Cu W cb mb s (p + 1) v (m.step 1)) (hb : bl t = [115, 104, 121, 59]) (ht : t.size ≤ 256) => (by
              have := word_c h t ht 71
              rw [hb, hwd] at this
              exact this : Calls Tryd.prog 97 #[.pointer (some ⟨cb, 0, none⟩), .string t, .int .i64 71] W fun e w' => (e = .returned (.bool false) ∧ Cx w' cb mb s m2 F) ∧ Only [cb, mb] W w'))
            clear hwd
            go_wp2
            go_quiet ((go_at_call 60; exact Calls.quiet_of (HA.out _ ((HUK.out.alloc _).drewN _))))
            go_wp2
            have hB := (Blk.new wr #[.int .i64 173, .string e4T] 95 rfl).drewN nq
            have hS0 := And.intro (hB.cell 0) (hB.cell 1)
            have hCU := (HUK.out.alloc (.cells #[.int .i64 173, .string e4T] 95)).drewN nq
            have HCU := hid hCU
            have hne2 : wr.heap.size ∉ [cb, mb] := by
              have h1 := HUK.out.c.lt; have h2 := HUK.out.mt.lt
              simp; omega
            simp only [List.getElem?_cons_zero, List.getElem?_cons_succ] at hS0
            clear hCU
            go_region_held3 (fun w' => w'.cell? ⟨wr.heap.size, 0, none⟩ = some (.int .i64 173) ∧ w'.cell? ⟨wr.heap.size, 1, none⟩ = some (.string e4T)) (first | exact hS1 | exact hS0)
              (first | (go_at_call 97; refine (HWD.out _ _ (by exact HCU.out.drewN 1) (by decide) (by decide)).mono ?_; rintro e w2 ⟨⟨rfl, hx2⟩, ho2⟩; have hb2 := ho2.blk hB hne2; have hS1 := And.intro (hb2.cell 0) (hb2.cell 1); simp only [List.getElem?_cons_zero, List.getElem?_cons_succ] at hS1))
            go_wp2
            go_ret2
            rw [HF.out]
            exact ⟨⟨⟨_, rfl, 173, rfl, by decide, by decide⟩, hx2⟩, HOK.out.trans (Only.behind (((Only.refl [] wr).alloc _).drewN _) ho2)⟩
          · have HWD := hid (fun W (t : ByteArray) (h : Cu W cb mb s (p + 1) v (m.step 1)) (hb : bl t = [115, 104, 121, 59]) (ht : t.size ≤ 256) => (by
              have := word_c h t ht 71
              rw [hb, hwd] at this
              exact this : Calls Tryd.prog 97 #[.pointer (some ⟨cb, 0, none⟩), .string t, .int .i64 71] W fun e w' => (e = .returned (.bool true) ∧ Cu w' cb mb s q v m2) ∧ Only [cb, mb] W w'))
            have HF := hid (HO.out.symm.trans (HOF.out ▸ fo_then_ok (f := fun _ _ => done 173) HU1.out.why (fair_word _ _) hwd))
            clear hwd
            go_wp2
            go_quiet ((go_at_call 60; exact Calls.quiet_of (HA.out _ ((HUK.out.alloc _).drewN _))))
            go_wp2
            have hB := (Blk.new wr #[.int .i64 173, .string e4T] 95 rfl).drewN nq
            have hS0 := And.intro (hB.cell 0) (hB.cell 1)
            have hCU := (HUK.out.alloc (.cells #[.int .i64 173, .string e4T] 95)).drewN nq
            have HCU := hid hCU
            have hne2 : wr.heap.size ∉ [cb, mb] := by
              have h1 := HUK.out.c.lt; have h2 := HUK.out.mt.lt
              simp; omega
            simp only [List.getElem?_cons_zero, List.getElem?_cons_succ] at hS0
            clear hCU
            go_region_held3 (fun w' => w'.cell? ⟨wr.heap.size, 0, none⟩ = some (.int .i64 173) ∧ w'.cell? ⟨wr.heap.size, 1, none⟩ = some (.string e4T)) (first | exact hS1 | exact hS0)
              (first | (go_at_call 97; refine (HWD.out _ _ (by exact HCU.out.drewN 1) (by decide) (by decide)).mono ?_; rintro e w2 ⟨⟨rfl, hx2⟩, ho2⟩; have hb2 := ho2.blk hB hne2; have hS1 := And.intro (hb2.cell 0) (hb2.cell 1); simp only [List.getElem?_cons_zero, List.getElem?_cons_succ] at hS1))
            go_wp2
            go_ret2
            rw [HF.out, fo_done hx2.ok hx2.why]
            exact ⟨⟨⟨_, rfl, rfl⟩, hx2⟩, HOK.out.trans (Only.behind (((Only.refl [] wr).alloc _).drewN _) ho2)⟩
        · have hne : (a == 115) = false := by simpa using heq
          have hix := entIdx4
          have hsz : (1 : Int) < (e4T.size : Int) := by decide
          have hge : ∀ h, (e4T[1]'h).toNat = 115 := fun _ => rfl
          go_wp2
          go_quiet ((go_at_call 60; exact Calls.quiet_of (HA.out _ ((HUK.out.alloc _).drewN _))))
          go_wp2
          go_roundw
          case rel =>
            refine ⟨4 + 1, by omega, by go_num, fun j hj => ?_, (HUK.out.alloc _).drewN _, HOK.out.trans ((((Only.refl _ _).alloc _).drewN _))⟩
            by_cases hj2 : j = 4
            · subst hj2; exact heq
            · exact HALL.out j (by omega)
          case measure => simp [RowKit.intOf]
      · by_cases heq : a = 110
        · subst heq
          have hof : bodyP b = andThen (word 71 [110, 98, 115, 112, 59]) (fun _ _ => done 160) := by
            have : b = some 110 := by
              have := HAB.out
              rcases b with _ | b
              · simp [aheadI] at this
              · simp only [aheadI] at this; congr 1; omega
            rw [this]; rfl
          have HOF := hid hof
          clear hof
          have hix := entIdx5
          have hsz : (1 : Int) < (e5T.size : Int) := by decide
          have hsz1 : (1 : Int) ≤ (e5T.size : Int) := by decide
          have hge : ∀ h, (e5T[1]'h).toNat = 110 := fun _ => rfl
          rcases hwd : fo s (m.step 1) (p + 1) (word 71 [110, 98, 115, 112, 59]) with ⟨m2, F | ⟨u, q⟩⟩
          · have HF := hid (HO.out.symm.trans (HOF.out ▸ fo_then_bad (f := fun _ _ => done 160) HU1.out.why (fair_word _ _) hwd))
            have HWD := hid (fun W (t : ByteArray) (h : Cu W cb mb s (p + 1) v (m.step 1)) (hb : bl t = [110, 98, 115, 112, 59]) (ht : t.size ≤ 256) => (by
              have := word_c h t ht 71
              rw [hb, hwd] at this
              exact this : Calls Tryd.prog 97 #[.pointer (some ⟨cb, 0, none⟩), .string t, .int .i64 71] W fun e w' => (e = .returned (.bool false) ∧ Cx w' cb mb s m2 F) ∧ Only [cb, mb] W w'))
            clear hwd
            go_wp2
            go_quiet ((go_at_call 60; exact Calls.quiet_of (HA.out _ ((HUK.out.alloc _).drewN _))))
            go_wp2
            have hB := (Blk.new wr #[.int .i64 160, .string e5T] 95 rfl).drewN nq
            have hS0 := And.intro (hB.cell 0) (hB.cell 1)
            have hCU := (HUK.out.alloc (.cells #[.int .i64 160, .string e5T] 95)).drewN nq
            have HCU := hid hCU
            have hne2 : wr.heap.size ∉ [cb, mb] := by
              have h1 := HUK.out.c.lt; have h2 := HUK.out.mt.lt
              simp; omega
            simp only [List.getElem?_cons_zero, List.getElem?_cons_succ] at hS0
            clear hCU
            go_region_held3 (fun w' => w'.cell? ⟨wr.heap.size, 0, none⟩ = some (.int .i64 160) ∧ w'.cell? ⟨wr.heap.size, 1, none⟩ = some (.string e5T)) (first | exact hS1 | exact hS0)
              (first | (go_at_call 97; refine (HWD.out _ _ (by exact HCU.out.drewN 1) (by decide) (by decide)).mono ?_; rintro e w2 ⟨⟨rfl, hx2⟩, ho2⟩; have hb2 := ho2.blk hB hne2; have hS1 := And.intro (hb2.cell 0) (hb2.cell 1); simp only [List.getElem?_cons_zero, List.getElem?_cons_succ] at hS1))
            go_wp2
            go_ret2
            rw [HF.out]
            exact ⟨⟨⟨_, rfl, 160, rfl, by decide, by decide⟩, hx2⟩, HOK.out.trans (Only.behind (((Only.refl [] wr).alloc _).drewN _) ho2)⟩
          · have HWD := hid (fun W (t : ByteArray) (h : Cu W cb mb s (p + 1) v (m.step 1)) (hb : bl t = [110, 98, 115, 112, 59]) (ht : t.size ≤ 256) => (by
              have := word_c h t ht 71
              rw [hb, hwd] at this
              exact this : Calls Tryd.prog 97 #[.pointer (some ⟨cb, 0, none⟩), .string t, .int .i64 71] W fun e w' => (e = .returned (.bool true) ∧ Cu w' cb mb s q v m2) ∧ Only [cb, mb] W w'))
            have HF := hid (HO.out.symm.trans (HOF.out ▸ fo_then_ok (f := fun _ _ => done 160) HU1.out.why (fair_word _ _) hwd))
            clear hwd
            go_wp2
            go_quiet ((go_at_call 60; exact Calls.quiet_of (HA.out _ ((HUK.out.alloc _).drewN _))))
            go_wp2
            have hB := (Blk.new wr #[.int .i64 160, .string e5T] 95 rfl).drewN nq
            have hS0 := And.intro (hB.cell 0) (hB.cell 1)
            have hCU := (HUK.out.alloc (.cells #[.int .i64 160, .string e5T] 95)).drewN nq
            have HCU := hid hCU
            have hne2 : wr.heap.size ∉ [cb, mb] := by
              have h1 := HUK.out.c.lt; have h2 := HUK.out.mt.lt
              simp; omega
            simp only [List.getElem?_cons_zero, List.getElem?_cons_succ] at hS0
            clear hCU
            go_region_held3 (fun w' => w'.cell? ⟨wr.heap.size, 0, none⟩ = some (.int .i64 160) ∧ w'.cell? ⟨wr.heap.size, 1, none⟩ = some (.string e5T)) (first | exact hS1 | exact hS0)
              (first | (go_at_call 97; refine (HWD.out _ _ (by exact HCU.out.drewN 1) (by decide) (by decide)).mono ?_; rintro e w2 ⟨⟨rfl, hx2⟩, ho2⟩; have hb2 := ho2.blk hB hne2; have hS1 := And.intro (hb2.cell 0) (hb2.cell 1); simp only [List.getElem?_cons_zero, List.getElem?_cons_succ] at hS1))
            go_wp2
            go_ret2
            rw [HF.out, fo_done hx2.ok hx2.why]
            exact ⟨⟨⟨_, rfl, rfl⟩, hx2⟩, HOK.out.trans (Only.behind (((Only.refl [] wr).alloc _).drewN _) ho2)⟩
        · have hne : (a == 110) = false := by simpa using heq
          have hix := entIdx5
          have hsz : (1 : Int) < (e5T.size : Int) := by decide
          have hge : ∀ h, (e5T[1]'h).toNat = 110 := fun _ => rfl
          go_wp2
          go_quiet ((go_at_call 60; exact Calls.quiet_of (HA.out _ ((HUK.out.alloc _).drewN _))))
          go_wp2
          go_roundw
          case rel =>
            refine ⟨5 + 1, by omega, by go_num, fun j hj => ?_, (HUK.out.alloc _).drewN _, HOK.out.trans ((((Only.refl _ _).alloc _).drewN _))⟩
            by_cases hj2 : j = 5
            · subst hj2; exact heq
            · exact HALL.out j (by omega)
          case measure => simp [RowKit.intOf]
      · have hof : bodyP b = andThen (word 71 [35, 120]) (fun _ _ => numK 6 0) := by
          unfold bodyP
          rw [entOf_none (fun j hj => by rw [HAB.out]; exact HALL.out j hj)]
        have HOF := hid hof
        clear hof
        rcases hwd : fo s (m.step 1) (p + 1) (word 71 [35, 120]) with ⟨m2, F | ⟨u, q⟩⟩
        · have HF := hid (HO.out.symm.trans (HOF.out ▸ fo_then_bad (f := fun _ _ => numK 6 0) HU1.out.why (fair_word _ _) hwd))
          have HWD := hid (fun W (t : ByteArray) (h : Cu W cb mb s (p + 1) v (m.step 1)) (hb : bl t = [35, 120]) (ht : t.size ≤ 256) => (by
            have := word_c h t ht 71
            rw [hb, hwd] at this
            exact this : Calls Tryd.prog 97 #[.pointer (some ⟨cb, 0, none⟩), .string t, .int .i64 71] W fun e w' => (e = .returned (.bool false) ∧ Cx w' cb mb s m2 F) ∧ Only [cb, mb] W w'))
          clear hwd
          go_wp2_with fail
          refine (HWD.out _ _ HUK.out (by decide) (by decide)).mono ?_
          rintro e w2 ⟨⟨rfl, hx2⟩, ho2⟩
          go_wp2
          go_ret2
          rw [HF.out]
          exact ⟨⟨⟨_, rfl, 0, rfl, by decide, by decide⟩, hx2⟩, HOK.out.trans ho2⟩
        · have HF := hid (HO.out.symm.trans (HOF.out ▸ fo_then_ok (f := fun _ _ => numK 6 0) HU1.out.why (fair_word _ _) hwd))
          have HWD := hid (fun W (t : ByteArray) (h : Cu W cb mb s (p + 1) v (m.step 1)) (hb : bl t = [35, 120]) (ht : t.size ≤ 256) => (by
            have := word_c h t ht 71
            rw [hb, hwd] at this
            exact this : Calls Tryd.prog 97 #[.pointer (some ⟨cb, 0, none⟩), .string t, .int .i64 71] W fun e w' => (e = .returned (.bool true) ∧ Cu w' cb mb s q v m2) ∧ Only [cb, mb] W w'))
          clear hwd
          go_wp2_with fail
          refine (HWD.out _ _ HUK.out (by decide) (by decide)).mono ?_
          rintro e w2 ⟨⟨rfl, hx2⟩, ho2⟩
          rcases hnm : fo s m2 q (numK 6 0) with ⟨m3, F3 | ⟨r3, q3⟩⟩
          · have HNM := hid (number_c hx2)
            rw [hnm] at HNM
            have HF3 := hid (HF.out.trans hnm)
            clear hnm
            go_wp2_with fail
            refine HNM.out.mono ?_
            rintro e w3 ⟨⟨⟨z, rfl, hz⟩, hx3⟩, ho3⟩
            go_wp2
            go_ret2
            rw [HF3.out]
            exact ⟨⟨⟨_, rfl, hz⟩, hx3⟩, (HOK.out.trans ho2).trans ho3⟩
          · have HNM := hid (number_c hx2)
            rw [hnm] at HNM
            have HF3 := hid (HF.out.trans hnm)
            clear hnm
            go_wp2_with fail
            refine HNM.out.mono ?_
            rintro e w3 ⟨⟨⟨z, rfl, hz⟩, hx3⟩, ho3⟩
            go_wp2
            go_ret2
            rw [HF3.out]
            exact ⟨⟨⟨_, rfl, hz⟩, hx3⟩, (HOK.out.trans ho2).trans ho3⟩
end Go.Proofs.YthlbbinlkmchjaaDoor
