/- The reference's Put: a rune's bytes. -/
import Derived.Test.YtmlhibcbgdhadaaDoorText
import Derived.RangeFuncRecord
namespace Go.Proofs.YtmlhibcbgdhadaaDoor
open Go.RowKit

theorem u8_wrap {x : Int} (h0 : 0 ≤ x) (h1 : x < 256) : IntKind.u8.wrap x = x := by simp [IntKind.wrap, IntKind.signed, IntKind.bits]; omega
/-- the last k bytes of a rune -/
def tlb (r : Nat) : Nat → List Nat
  | 0 => []
  | k + 1 => (128 + r / 64 ^ k % 64) :: tlb r k
theorem tlb_len (r : Nat) : ∀ k, (tlb r k).length = k
  | 0 => rfl
  | k + 1 => by rw [tlb, List.length_cons, tlb_len r k]
theorem tlb_lt (r : Nat) : ∀ k, ∀ b ∈ tlb r k, b < 256
  | 0, b, h => by cases h
  | k + 1, b, h => by
    rcases List.mem_cons.1 h with rfl | h
    · have := Nat.mod_lt (r / 64 ^ k) (show 0 < 64 by decide); omega
    · exact tlb_lt r k b h
theorem enc_two {r : Nat} (h : widthR r = 2) : enc r = (192 + r / 64 ^ 1) :: tlb r 1 := by
  unfold widthR at h
  unfold enc
  rw [if_neg (by intro q; rw [if_pos q] at h; cases h)]
  rw [if_pos (by
    by_cases q : r < 128
    · omega
    · rw [if_neg q] at h
      by_cases q2 : r < 2048
      · exact q2
      · rw [if_neg q2] at h; split at h <;> cases h)]
  simp [tlb]
theorem width_ways {r : Nat} (h : isRune r = true) : (widthR r = 1 ∧ r < 128) ∨ (widthR r = 2 ∧ 128 ≤ r ∧ r < 2048) ∨ (widthR r = 3 ∧ 2048 ≤ r ∧ r < 65536) ∨ (widthR r = 4 ∧ 65536 ≤ r ∧ r ≤ 1114111) := by
  unfold isRune at h
  have h := of_decide_eq_true h
  unfold widthR
  repeat' split
  all_goals omega
theorem enc_three {r : Nat} (h : 2048 ≤ r ∧ r < 65536) : enc r = (224 + r / 64 ^ 2) :: tlb r 2 := by
  unfold enc
  rw [if_neg (by omega), if_neg (by omega), if_pos (by omega)]
  simp [tlb]
theorem enc_four {r : Nat} (h : 65536 ≤ r) : enc r = (240 + r / 64 ^ 3) :: tlb r 3 := by
  unfold enc
  rw [if_neg (by omega), if_neg (by omega), if_neg (by omega)]
  simp [tlb]
/-- a list that was just laid is a row of one's own -/
theorem row_one (w : World) (x : Nat) {B : Nat} (hB : B ≤ w.heap.size) : (w.alloc (.cells #[.int .u8 (x : Int)] 5)).ownsRow B 5 1 (.slice (some ⟨w.heap.size, 0, none⟩) 1 1) 1 (u8s [x]) :=
  ⟨rfl, .inr ⟨_, 1, #[.int .u8 (x : Int)], rfl, hB, World.alloc_heap_new _ _, Nat.le_refl _, by decide, rfl, rfl⟩⟩
theorem row_empty (w : World) {B : Nat} (hB : B ≤ w.heap.size) : RB (w.alloc (.cells #[] 5)) B (.slice (some ⟨w.heap.size, 0, none⟩) 0 0) [] :=
  ⟨rfl, .inr ⟨_, 0, #[], rfl, hB, World.alloc_heap_new _ _, Nat.le_refl _, by decide, rfl, rfl⟩⟩
theorem lead_of {n r : Nat} (hw : widthR r = n) (hn : 2 ≤ n) (h : isRune r = true) : ∃ b : Nat, ((n = 2 ∧ b = 192) ∨ (n = 3 ∧ b = 224) ∨ (n = 4 ∧ b = 240)) ∧ enc r = (b + r / 64 ^ (n - 1)) :: tlb r (n - 1) ∧ b + r / 64 ^ (n - 1) < 256 := by
  subst hw
  rcases width_ways h with ⟨e, h1⟩ | ⟨e, h1⟩ | ⟨e, h1⟩ | ⟨e, h1⟩
  · omega
  · rw [e]; exact ⟨192, .inl ⟨rfl, rfl⟩, enc_two e, by simp; omega⟩
  · rw [e]; exact ⟨224, .inr (.inl ⟨rfl, rfl⟩), enc_three h1, by simp; omega⟩
  · rw [e]; exact ⟨240, .inr (.inr ⟨rfl, rfl⟩), enc_four h1.1, by simp; omega⟩

set_option maxRecDepth 100000 in
set_option maxHeartbeats 8000000 in
theorem put_c {r : Nat} (hr : isRune r = true) (w : World) :
    Calls Tryd.prog 72 #[.int .i64 r] w fun e w' => e = .returned (.string (strN (enc r))) ∧ Only [] w w' := by
  have hrr : r ≤ 1114111 ∧ (r < 55296 ∨ 57343 < r) := by unfold isRune at hr; exact of_decide_eq_true hr
  have HWD := hid (fun W => refWidth_any (r : Int) W)
  rw [widthI_rune hrr] at HWD
  obtain ⟨i5, hi5, z50, z51, z52⟩ := info_parts info5
  have hr0 : (0 : Int) ≤ (r : Int) := by omega
  have hr1 : (r : Int) ≤ 1114111 := by omega
  rcases width_ways hr with ⟨e, h1⟩ | ⟨e, h1⟩ | ⟨e, h1⟩ | ⟨e, h1⟩
  · have he : enc r = [r] := by unfold enc; rw [if_pos h1]
    rw [he]
    rw [e] at HWD
    have hcv := RB.str (w := w.alloc (.cells #[.int .u8 (r : Int)] 5)) (B := w.heap.size) (bs := [r]) (row_one w r (Nat.le_refl _)) (by simp; omega)
    have hwr : IntKind.u8.wrap (r : Int) = (r : Int) := by simp [IntKind.wrap, IntKind.signed, IntKind.bits]; omega
    clear e h1 he hr hrr
    go_enter Tryd.func72, Tryd.ntmps72
    go_wp2_with fail
    refine (HWD.out _).mono ?_
    rintro e w1 ⟨rfl, rfl⟩
    go_wp2_with fail
    go_ret
    exact ⟨rfl, (Only.refl _ _).alloc _⟩
  · obtain ⟨b, hb, henc, hb256⟩ := lead_of e (by decide) hr
    have hbb : b = 192 := by omega
    subst hbb
    simp only [Nat.reduceSub] at henc hb256
    rw [e] at HWD
    have HENC := hid henc
    have HB := hid hb256
    clear henc hb256 e h1 hr hrr
    go_enter Tryd.func72, Tryd.ntmps72
    go_wp2_with fail
    refine (HWD.out _).mono ?_
    rintro e w1 ⟨rfl, rfl⟩
    go_wp2_with fail
    go_loopw [0, 4, 5] (fun v0 vo vi wr => ∃ (k q : Nat) (v : Value), v0 = .int .i64 q ∧ vo = v ∧ vi = .int .i64 ((k : Int) + 1) ∧ k ≤ 1 ∧ Hid (q = r / 64 ^ k) ∧ RB wr w1.heap.size v (tlb r k) ∧ Only [] w1 wr) (fun _ _ vi _ => 2 - (RowKit.intOf vi).toNat)
    case atStart => exact ⟨0, r, _, rfl, rfl, rfl, by omega, by show r = r / 64 ^ 0; simp, row_empty w1 (Nat.le_refl _), (Only.refl _ _).alloc _⟩
    case round =>
      obtain ⟨k, q, v, rfl, hvv, rfl, hk, HQ, hrb, ho⟩ := hrel
      subst hvv
      obtain ⟨ad, c, hve, hsl, -⟩ := row_reads hrb
      rw [tlb_len] at hve
      subst hve
      have HRB := hid hrb
      have HSL := hid hsl
      have HO := hid ho
      have hk0 : (0 : Int) ≤ (k : Int) := by omega
      have hq0 : (0 : Int) ≤ (q : Int) := by omega
      have hqr : q ≤ 1114111 := by rw [HQ.out]; exact Nat.le_trans (Nat.div_le_self _ _) (by omega)
      clear hrb hsl ho
      by_cases hlt : k < 1
      · have hkl : (k : Int) + 1 < 2 := by omega
        obtain ⟨m, hm⟩ : ∃ m, 128 + q % 64 = m := ⟨_, rfl⟩
        have hm256 : m < 256 := by omega
        have hw1 : IntKind.u8.wrap (128 + (q : Int) % 64) = (m : Int) := (u8_wrap (by omega) (by omega)).trans (by omega)
        have HM := hid hm
        clear hm
        have ha1 : 1 + k ≤ maxLen := by unfold maxLen; omega
        have ha2 : (1 + k) * 1 ≤ 140737488355328 := by omega
        go_wp2_with (at_builtin; refine wpList_append_sl _ rfl _ _ 50 rfl w1.heap.size 5 i5 _ 1 1 Tryd.underlying50 hi5 z50 z51 z52 rfl (by decide) (.slice (some ⟨wr.heap.size, 0, none⟩) 1 1) 1 (u8s [m]) (by rfl) ?qc1 ad k c (u8s (tlb r k)) (by rfl) ?qc5 ?qc2 ?qc3 ha1 ha2 ?qc4 ?_)
        case qc1 => exact row_one wr m HO.out.size
        case qc5 => rw [u8s_len, tlb_len, Nat.mul_one]
        case qc2 =>
          have := HSL.out.only ((Only.refl [] wr).alloc (.cells #[.int .u8 (m : Int)] 5))
          rw [tlb_len] at this
          exact this
        case qc3 => intro u hu; simp [u8s] at hu; obtain ⟨x, -, rfl⟩ := hu; rfl
        case qc4 => have := HO.out.size; simp; omega
        intro v' w6 hown hgrew
        have HOW := hid hown
        have HG := hid (only_grow (L := []) (HO.out.alloc (.cells #[.int .u8 (m : Int)] 5)) hgrew.grown (fun b hb => by simp [Value.ownBlock] at hb; subst hb; exact .inr HO.out.size))
        have HLT := hid hlt
        clear hown hgrew hlt
        go_wp2
        go_roundw
        case rel =>
          refine ⟨k + 1, q / 64, v', by go_num, rfl, by go_num, HLT.out, ?_, ?_, HG.out⟩
          · show q / 64 = r / 64 ^ (k + 1)
            rw [HQ.out, Nat.pow_succ, Nat.div_div_eq_div_mul]
          · have q1 := HOW.out
            unfold RB
            rw [tlb_len, tlb, ← HQ.out, HM.out, Nat.add_comm k 1]
            exact q1
        case measure => have := HLT.out; simp [RowKit.intOf]; omega
      · have hkm : k = 1 := by omega
        subst hkm
        obtain ⟨m, hm⟩ : ∃ m, 192 + q = m := ⟨_, rfl⟩
        have hm256 : m < 256 := by rw [← hm, HQ.out]; exact HB.out
        have hw1 : IntKind.u8.wrap (192 + (q : Int)) = (m : Int) := (u8_wrap (by omega) (by omega)).trans (by omega)
        have HM := hid hm
        clear hm hlt
        have ha1 : 1 + 1 ≤ maxLen := by unfold maxLen; omega
        have ha2 : (1 + 1) * 1 ≤ 140737488355328 := by omega
        have hcv : ∀ v' w6, RB w6 w1.heap.size v' (m :: tlb r 1) → (convert 50 9 v').run Tryd.prog w6 = .ok (.string (strN (m :: tlb r 1))) w6 := fun v' w6 h => RB.str h (by
          intro b hb
          rcases List.mem_cons.1 hb with rfl | hb
          · exact hm256
          · exact tlb_lt r 1 b hb)
        have HCV := hid hcv
        clear hcv
        go_wp2_with (at_builtin; refine wpList_append_sl _ rfl _ _ 50 rfl w1.heap.size 5 i5 _ 1 1 Tryd.underlying50 hi5 z50 z51 z52 rfl (by decide) (.slice (some ⟨wr.heap.size + 1, 0, none⟩) 1 1) 1 (u8s [m]) (by rfl) ?qc1 ad 1 c (u8s (tlb r 1)) (by rfl) ?qc5 ?qc2 ?qc3 ha1 ha2 ?qc4 ?_)
        case qc1 =>
          have := row_one (wr.alloc (.cells #[.int .i64 0, .int .i64 0, .int .i64 192, .int .i64 224, .int .i64 240] 3)) m (B := w1.heap.size) (by have := HO.out.size; simp; omega)
          rwa [World.size_alloc] at this
        case qc5 => rw [u8s_len, tlb_len, Nat.mul_one]
        case qc2 =>
          have := HSL.out.only (((Only.refl [] wr).alloc (.cells #[.int .i64 0, .int .i64 0, .int .i64 192, .int .i64 224, .int .i64 240] 3)).alloc (.cells #[.int .u8 (m : Int)] 5))
          rw [tlb_len] at this
          exact this
        case qc3 => intro u hu; simp [u8s] at hu; obtain ⟨x, -, rfl⟩ := hu; rfl
        case qc4 => have := HO.out.size; simp; omega
        intro v' w6 hown hgrew
        have hcv := HCV.out v' w6 (by unfold RB; rw [List.length_cons, tlb_len, Nat.add_comm]; exact hown)
        have HG := hid (only_grow (L := []) ((HO.out.alloc (.cells #[.int .i64 0, .int .i64 0, .int .i64 192, .int .i64 224, .int .i64 240] 3)).alloc (.cells #[.int .u8 (m : Int)] 5)) hgrew.grown (fun b hb => by simp [Value.ownBlock] at hb; subst hb; exact .inr (Nat.le_succ_of_le HO.out.size)))
        clear hown hgrew
        go_wp2_with fail
        go_ret
        refine ⟨?_, HG.out⟩
        rw [HENC.out, ← HQ.out, HM.out]
        rfl
  · obtain ⟨b, hb, henc, hb256⟩ := lead_of e (by decide) hr
    have hbb : b = 224 := by omega
    subst hbb
    simp only [Nat.reduceSub] at henc hb256
    rw [e] at HWD
    have HENC := hid henc
    have HB := hid hb256
    clear henc hb256 e h1 hr hrr
    go_enter Tryd.func72, Tryd.ntmps72
    go_wp2_with fail
    refine (HWD.out _).mono ?_
    rintro e w1 ⟨rfl, rfl⟩
    go_wp2_with fail
    go_loopw [0, 4, 5] (fun v0 vo vi wr => ∃ (k q : Nat) (v : Value), v0 = .int .i64 q ∧ vo = v ∧ vi = .int .i64 ((k : Int) + 1) ∧ k ≤ 2 ∧ Hid (q = r / 64 ^ k) ∧ RB wr w1.heap.size v (tlb r k) ∧ Only [] w1 wr) (fun _ _ vi _ => 3 - (RowKit.intOf vi).toNat)
    case atStart => exact ⟨0, r, _, rfl, rfl, rfl, by omega, by show r = r / 64 ^ 0; simp, row_empty w1 (Nat.le_refl _), (Only.refl _ _).alloc _⟩
    case round =>
      obtain ⟨k, q, v, rfl, hvv, rfl, hk, HQ, hrb, ho⟩ := hrel
      subst hvv
      obtain ⟨ad, c, hve, hsl, -⟩ := row_reads hrb
      rw [tlb_len] at hve
      subst hve
      have HRB := hid hrb
      have HSL := hid hsl
      have HO := hid ho
      have hk0 : (0 : Int) ≤ (k : Int) := by omega
      have hq0 : (0 : Int) ≤ (q : Int) := by omega
      have hqr : q ≤ 1114111 := by rw [HQ.out]; exact Nat.le_trans (Nat.div_le_self _ _) (by omega)
      clear hrb hsl ho
      by_cases hlt : k < 2
      · have hkl : (k : Int) + 1 < 3 := by omega
        obtain ⟨m, hm⟩ : ∃ m, 128 + q % 64 = m := ⟨_, rfl⟩
        have hm256 : m < 256 := by omega
        have hw1 : IntKind.u8.wrap (128 + (q : Int) % 64) = (m : Int) := (u8_wrap (by omega) (by omega)).trans (by omega)
        have HM := hid hm
        clear hm
        have ha1 : 1 + k ≤ maxLen := by unfold maxLen; omega
        have ha2 : (1 + k) * 1 ≤ 140737488355328 := by omega
        go_wp2_with (at_builtin; refine wpList_append_sl _ rfl _ _ 50 rfl w1.heap.size 5 i5 _ 1 1 Tryd.underlying50 hi5 z50 z51 z52 rfl (by decide) (.slice (some ⟨wr.heap.size, 0, none⟩) 1 1) 1 (u8s [m]) (by rfl) ?qc1 ad k c (u8s (tlb r k)) (by rfl) ?qc5 ?qc2 ?qc3 ha1 ha2 ?qc4 ?_)
        case qc1 => exact row_one wr m HO.out.size
        case qc5 => rw [u8s_len, tlb_len, Nat.mul_one]
        case qc2 =>
          have := HSL.out.only ((Only.refl [] wr).alloc (.cells #[.int .u8 (m : Int)] 5))
          rw [tlb_len] at this
          exact this
        case qc3 => intro u hu; simp [u8s] at hu; obtain ⟨x, -, rfl⟩ := hu; rfl
        case qc4 => have := HO.out.size; simp; omega
        intro v' w6 hown hgrew
        have HOW := hid hown
        have HG := hid (only_grow (L := []) (HO.out.alloc (.cells #[.int .u8 (m : Int)] 5)) hgrew.grown (fun b hb => by simp [Value.ownBlock] at hb; subst hb; exact .inr HO.out.size))
        have HLT := hid hlt
        clear hown hgrew hlt
        go_wp2
        go_roundw
        case rel =>
          refine ⟨k + 1, q / 64, v', by go_num, rfl, by go_num, HLT.out, ?_, ?_, HG.out⟩
          · show q / 64 = r / 64 ^ (k + 1)
            rw [HQ.out, Nat.pow_succ, Nat.div_div_eq_div_mul]
          · have q1 := HOW.out
            unfold RB
            rw [tlb_len, tlb, ← HQ.out, HM.out, Nat.add_comm k 1]
            exact q1
        case measure => have := HLT.out; simp [RowKit.intOf]; omega
      · have hkm : k = 2 := by omega
        subst hkm
        obtain ⟨m, hm⟩ : ∃ m, 224 + q = m := ⟨_, rfl⟩
        have hm256 : m < 256 := by rw [← hm, HQ.out]; exact HB.out
        have hw1 : IntKind.u8.wrap (224 + (q : Int)) = (m : Int) := (u8_wrap (by omega) (by omega)).trans (by omega)
        have HM := hid hm
        clear hm hlt
        have ha1 : 1 + 2 ≤ maxLen := by unfold maxLen; omega
        have ha2 : (1 + 2) * 1 ≤ 140737488355328 := by omega
        have hcv : ∀ v' w6, RB w6 w1.heap.size v' (m :: tlb r 2) → (convert 50 9 v').run Tryd.prog w6 = .ok (.string (strN (m :: tlb r 2))) w6 := fun v' w6 h => RB.str h (by
          intro b hb
          rcases List.mem_cons.1 hb with rfl | hb
          · exact hm256
          · exact tlb_lt r 2 b hb)
        have HCV := hid hcv
        clear hcv
        go_wp2_with (at_builtin; refine wpList_append_sl _ rfl _ _ 50 rfl w1.heap.size 5 i5 _ 1 1 Tryd.underlying50 hi5 z50 z51 z52 rfl (by decide) (.slice (some ⟨wr.heap.size + 1, 0, none⟩) 1 1) 1 (u8s [m]) (by rfl) ?qc1 ad 2 c (u8s (tlb r 2)) (by rfl) ?qc5 ?qc2 ?qc3 ha1 ha2 ?qc4 ?_)
        case qc1 =>
          have := row_one (wr.alloc (.cells #[.int .i64 0, .int .i64 0, .int .i64 192, .int .i64 224, .int .i64 240] 3)) m (B := w1.heap.size) (by have := HO.out.size; simp; omega)
          rwa [World.size_alloc] at this
        case qc5 => rw [u8s_len, tlb_len, Nat.mul_one]
        case qc2 =>
          have := HSL.out.only (((Only.refl [] wr).alloc (.cells #[.int .i64 0, .int .i64 0, .int .i64 192, .int .i64 224, .int .i64 240] 3)).alloc (.cells #[.int .u8 (m : Int)] 5))
          rw [tlb_len] at this
          exact this
        case qc3 => intro u hu; simp [u8s] at hu; obtain ⟨x, -, rfl⟩ := hu; rfl
        case qc4 => have := HO.out.size; simp; omega
        intro v' w6 hown hgrew
        have hcv := HCV.out v' w6 (by unfold RB; rw [List.length_cons, tlb_len, Nat.add_comm]; exact hown)
        have HG := hid (only_grow (L := []) ((HO.out.alloc (.cells #[.int .i64 0, .int .i64 0, .int .i64 192, .int .i64 224, .int .i64 240] 3)).alloc (.cells #[.int .u8 (m : Int)] 5)) hgrew.grown (fun b hb => by simp [Value.ownBlock] at hb; subst hb; exact .inr (Nat.le_succ_of_le HO.out.size)))
        clear hown hgrew
        go_wp2_with fail
        go_ret
        refine ⟨?_, HG.out⟩
        rw [HENC.out, ← HQ.out, HM.out]
        rfl
  · obtain ⟨b, hb, henc, hb256⟩ := lead_of e (by decide) hr
    have hbb : b = 240 := by omega
    subst hbb
    simp only [Nat.reduceSub] at henc hb256
    rw [e] at HWD
    have HENC := hid henc
    have HB := hid hb256
    clear henc hb256 e h1 hr hrr
    go_enter Tryd.func72, Tryd.ntmps72
    go_wp2_with fail
    refine (HWD.out _).mono ?_
    rintro e w1 ⟨rfl, rfl⟩
    go_wp2_with fail
    go_loopw [0, 4, 5] (fun v0 vo vi wr => ∃ (k q : Nat) (v : Value), v0 = .int .i64 q ∧ vo = v ∧ vi = .int .i64 ((k : Int) + 1) ∧ k ≤ 3 ∧ Hid (q = r / 64 ^ k) ∧ RB wr w1.heap.size v (tlb r k) ∧ Only [] w1 wr) (fun _ _ vi _ => 4 - (RowKit.intOf vi).toNat)
    case atStart => exact ⟨0, r, _, rfl, rfl, rfl, by omega, by show r = r / 64 ^ 0; simp, row_empty w1 (Nat.le_refl _), (Only.refl _ _).alloc _⟩
    case round =>
      obtain ⟨k, q, v, rfl, hvv, rfl, hk, HQ, hrb, ho⟩ := hrel
      subst hvv
      obtain ⟨ad, c, hve, hsl, -⟩ := row_reads hrb
      rw [tlb_len] at hve
      subst hve
      have HRB := hid hrb
      have HSL := hid hsl
      have HO := hid ho
      have hk0 : (0 : Int) ≤ (k : Int) := by omega
      have hq0 : (0 : Int) ≤ (q : Int) := by omega
      have hqr : q ≤ 1114111 := by rw [HQ.out]; exact Nat.le_trans (Nat.div_le_self _ _) (by omega)
      clear hrb hsl ho
      by_cases hlt : k < 3
      · have hkl : (k : Int) + 1 < 4 := by omega
        obtain ⟨m, hm⟩ : ∃ m, 128 + q % 64 = m := ⟨_, rfl⟩
        have hm256 : m < 256 := by omega
        have hw1 : IntKind.u8.wrap (128 + (q : Int) % 64) = (m : Int) := (u8_wrap (by omega) (by omega)).trans (by omega)
        have HM := hid hm
        clear hm
        have ha1 : 1 + k ≤ maxLen := by unfold maxLen; omega
        have ha2 : (1 + k) * 1 ≤ 140737488355328 := by omega
        go_wp2_with (at_builtin; refine wpList_append_sl _ rfl _ _ 50 rfl w1.heap.size 5 i5 _ 1 1 Tryd.underlying50 hi5 z50 z51 z52 rfl (by decide) (.slice (some ⟨wr.heap.size, 0, none⟩) 1 1) 1 (u8s [m]) (by rfl) ?qc1 ad k c (u8s (tlb r k)) (by rfl) ?qc5 ?qc2 ?qc3 ha1 ha2 ?qc4 ?_)
        case qc1 => exact row_one wr m HO.out.size
        case qc5 => rw [u8s_len, tlb_len, Nat.mul_one]
        case qc2 =>
          have := HSL.out.only ((Only.refl [] wr).alloc (.cells #[.int .u8 (m : Int)] 5))
          rw [tlb_len] at this
          exact this
        case qc3 => intro u hu; simp [u8s] at hu; obtain ⟨x, -, rfl⟩ := hu; rfl
        case qc4 => have := HO.out.size; simp; omega
        intro v' w6 hown hgrew
        have HOW := hid hown
        have HG := hid (only_grow (L := []) (HO.out.alloc (.cells #[.int .u8 (m : Int)] 5)) hgrew.grown (fun b hb => by simp [Value.ownBlock] at hb; subst hb; exact .inr HO.out.size))
        have HLT := hid hlt
        clear hown hgrew hlt
        go_wp2
        go_roundw
        case rel =>
          refine ⟨k + 1, q / 64, v', by go_num, rfl, by go_num, HLT.out, ?_, ?_, HG.out⟩
          · show q / 64 = r / 64 ^ (k + 1)
            rw [HQ.out, Nat.pow_succ, Nat.div_div_eq_div_mul]
          · have q1 := HOW.out
            unfold RB
            rw [tlb_len, tlb, ← HQ.out, HM.out, Nat.add_comm k 1]
            exact q1
        case measure => have := HLT.out; simp [RowKit.intOf]; omega
      · have hkm : k = 3 := by omega
        subst hkm
        obtain ⟨m, hm⟩ : ∃ m, 240 + q = m := ⟨_, rfl⟩
        have hm256 : m < 256 := by rw [← hm, HQ.out]; exact HB.out
        have hw1 : IntKind.u8.wrap (240 + (q : Int)) = (m : Int) := (u8_wrap (by omega) (by omega)).trans (by omega)
        have HM := hid hm
        clear hm hlt
        have ha1 : 1 + 3 ≤ maxLen := by unfold maxLen; omega
        have ha2 : (1 + 3) * 1 ≤ 140737488355328 := by omega
        have hcv : ∀ v' w6, RB w6 w1.heap.size v' (m :: tlb r 3) → (convert 50 9 v').run Tryd.prog w6 = .ok (.string (strN (m :: tlb r 3))) w6 := fun v' w6 h => RB.str h (by
          intro b hb
          rcases List.mem_cons.1 hb with rfl | hb
          · exact hm256
          · exact tlb_lt r 3 b hb)
        have HCV := hid hcv
        clear hcv
        go_wp2_with (at_builtin; refine wpList_append_sl _ rfl _ _ 50 rfl w1.heap.size 5 i5 _ 1 1 Tryd.underlying50 hi5 z50 z51 z52 rfl (by decide) (.slice (some ⟨wr.heap.size + 1, 0, none⟩) 1 1) 1 (u8s [m]) (by rfl) ?qc1 ad 3 c (u8s (tlb r 3)) (by rfl) ?qc5 ?qc2 ?qc3 ha1 ha2 ?qc4 ?_)
        case qc1 =>
          have := row_one (wr.alloc (.cells #[.int .i64 0, .int .i64 0, .int .i64 192, .int .i64 224, .int .i64 240] 3)) m (B := w1.heap.size) (by have := HO.out.size; simp; omega)
          rwa [World.size_alloc] at this
        case qc5 => rw [u8s_len, tlb_len, Nat.mul_one]
        case qc2 =>
          have := HSL.out.only (((Only.refl [] wr).alloc (.cells #[.int .i64 0, .int .i64 0, .int .i64 192, .int .i64 224, .int .i64 240] 3)).alloc (.cells #[.int .u8 (m : Int)] 5))
          rw [tlb_len] at this
          exact this
        case qc3 => intro u hu; simp [u8s] at hu; obtain ⟨x, -, rfl⟩ := hu; rfl
        case qc4 => have := HO.out.size; simp; omega
        intro v' w6 hown hgrew
        have hcv := HCV.out v' w6 (by unfold RB; rw [List.length_cons, tlb_len, Nat.add_comm]; exact hown)
        have HG := hid (only_grow (L := []) ((HO.out.alloc (.cells #[.int .i64 0, .int .i64 0, .int .i64 192, .int .i64 224, .int .i64 240] 3)).alloc (.cells #[.int .u8 (m : Int)] 5)) hgrew.grown (fun b hb => by simp [Value.ownBlock] at hb; subst hb; exact .inr (Nat.le_succ_of_le HO.out.size)))
        clear hown hgrew
        go_wp2_with fail
        go_ret
        refine ⟨?_, HG.out⟩
        rw [HENC.out, ← HQ.out, HM.out]
        rfl
end Go.Proofs.YtmlhibcbgdhadaaDoor
