/- The reference's words: name, value, long, Digits, open. -/
import Derived.Test.YtmlhibcbgdhadaaDoorInjA
import Derived.Test.YtmlhibcbgdhadaaDoorPrn
namespace Go.Proofs.YtmlhibcbgdhadaaDoor
open Go.RowKit

theorem strN_bl (s : ByteArray) : strN (bl s) = s := bl_inj (bl_strN _ (fun b hb => bl_lt s b hb))
def nameS (k : Int) : ByteArray := if k = 1 then { data := #[100, 111, 99] } else if k = 2 then { data := #[112] } else { data := #[115] }
theorem nameS_bl (k : Int) : bl (nameS k) = nameB k := by
  unfold nameS nameB
  repeat' split
  all_goals rfl
theorem nameS_size (k : Int) : (nameS k).size ≤ 3 := by
  unfold nameS
  repeat' split
  all_goals decide
set_option maxRecDepth 100000 in
theorem refName2_c (k : Int) (w : World) : Calls Tryd.prog 35 #[.int .i64 k] w fun e w' => e = .returned (.string (nameS k)) ∧ w' = w := by
  by_cases h1 : k = 1
  · subst h1
    go_enter Tryd.func35, Tryd.ntmps35
    go_wp2_with fail
    go_ret
    exact ⟨rfl, rfl⟩
  by_cases h2 : k = 2
  · subst h2
    go_enter Tryd.func35, Tryd.ntmps35
    go_wp2_with fail
    go_ret
    exact ⟨rfl, rfl⟩
  have e : nameS k = { data := #[115] } := by unfold nameS; rw [if_neg h1, if_neg h2]
  rw [e]
  have g1 : (k == 1) = false := by simpa using h1
  have g2 : (k == 2) = false := by simpa using h2
  go_enter Tryd.func35, Tryd.ntmps35
  go_wp2_with fail
  go_ret
  exact ⟨rfl, rfl⟩
def attS (b : Bool) (nm v : ByteArray) : ByteArray := if b then ({ data := #[32] } ++ nm ++ { data := #[61, 34] } ++ v) ++ { data := #[34] } else ⟨#[]⟩
theorem attS_bl (x : Nd) (j : Nat) : bl (attS (hb x (aBit j)) (aNm j) (aVl x j)) = attB x j := by
  unfold attS attB
  split
  · rw [U.bl_append, U.bl_append, U.bl_append, U.bl_append]; rfl
  · rfl
theorem attS_size {b : Bool} {nm v : ByteArray} (h1 : nm.size ≤ 100) (h2 : v.size ≤ 100) : (attS b nm v).size ≤ 300 := by
  unfold attS
  split
  · simp only [ByteArray.size_append]
    have e1 : ({ data := #[32] } : ByteArray).size = 1 := rfl
    have e2 : ({ data := #[61, 34] } : ByteArray).size = 2 := rfl
    have e3 : ({ data := #[34] } : ByteArray).size = 1 := rfl
    rw [e1, e2, e3]; omega
  · show 0 ≤ 300; omega
set_option maxRecDepth 100000 in
theorem refValue9_c (b : Bool) (nm v : ByteArray) (h1 : nm.size ≤ 100) (h2 : v.size ≤ 100) (w : World) : Calls Tryd.prog 59 #[.bool b, .string nm, .string v] w fun e w' => e = .returned (.string (attS b nm v)) ∧ w' = w := by
  cases b
  · go_enter Tryd.func59, Tryd.ntmps59
    go_wp2_with fail
    go_ret
    exact ⟨rfl, rfl⟩
  · have q1 : ¬ 9223372036854775807 < 1 + nm.size := by omega
    have q2 : ¬ 9223372036854775807 < 1 + nm.size + 2 := by omega
    have q3 : ¬ 9223372036854775807 < 1 + nm.size + 2 + v.size := by omega
    have q4 : ¬ 9223372036854775807 < 1 + nm.size + 2 + v.size + 1 := by omega
    go_enter Tryd.func59, Tryd.ntmps59
    go_wp2_with fail
    go_ret
    exact ⟨rfl, rfl⟩
set_option maxRecDepth 100000 in
theorem refLong_c (v : Int) (w : World) : Calls Tryd.prog 60 #[.int .i64 v] w fun e w' => e = .returned (.string (prT v)) ∧ w' = w := by
  have HP := hid (fun W => U.refPrint_any v W)
  rw [prV_eq] at HP
  go_enter Tryd.func60, Tryd.ntmps60
  go_wp2_with fail
  refine (HP.out _).mono ?_
  rintro e w1 ⟨rfl, rfl⟩
  go_wp2_with fail
  go_ret
  exact ⟨rfl, rfl⟩
theorem dec_step {n v : Nat} {bs : List Nat} (hv : 0 < v) (h : bl (U.decS n) = bl (U.decS v) ++ bs) : (v / 10 = 0 ∧ bl (U.decS n) = (48 + v % 10) :: bs) ∨ (0 < v / 10 ∧ bl (U.decS n) = bl (U.decS (v / 10)) ++ ((48 + v % 10) :: bs)) := by
  by_cases h10 : v < 10
  · refine .inl ⟨by omega, ?_⟩
    rw [h, U.bl_digit v h10, show v % 10 = v by omega]; rfl
  · refine .inr ⟨by omega, ?_⟩
    rw [h, U.decS_big h10, U.bl_append, U.bl_digit (v % 10) (by omega), List.append_assoc]; rfl
set_option maxRecDepth 100000 in
set_option maxHeartbeats 4000000 in
theorem digits_c (n : Nat) (hn : n ≤ 10000) (w : World) : Calls Tryd.prog 61 #[.int .i64 n] w fun e w' => e = .returned (.string (U.decS n)) ∧ Only [] w w' := by
  by_cases h0 : n = 0
  · subst h0
    have e : U.decS 0 = { data := #[48] } := bl_inj (U.bl_digit 0 (by decide))
    rw [e]
    go_enter Tryd.func61, Tryd.ntmps61
    go_wp2_with fail
    go_ret
    exact ⟨rfl, Only.refl _ _⟩
  · have g0 : ((n : Int) == 0) = false := by simp; omega
    have hi0 : ¬ (n : Int) = 0 := by omega
    have hn0 : (0 : Int) ≤ (n : Int) := by omega
    have hnn : ¬ (n : Int) < 0 := by omega
    have hnd : decide ((n : Int) < 0) = false := decide_eq_false hnn
    have hn8 : (n : Int) ≤ 10000 := by omega
    obtain ⟨i5, hi5, z50, z51, z52⟩ := info_parts info5
    have HPOS : Hid (0 < n) := by show 0 < n; omega
    go_enter Tryd.func61, Tryd.ntmps61
    go_wp2_with fail
    go_loopw [3, 4] (fun v0 v1 wr => ∃ (rv : Value) (bs : List Nat) (q : Nat), v0 = rv ∧ v1 = .int .i64 q ∧ q ≤ n ∧ Hid (RB wr w.heap.size rv bs ∧ bs.length ≤ 20 ∧ (∀ b ∈ bs, b < 256) ∧ ((q = 0 ∧ bl (U.decS n) = bs) ∨ (0 < q ∧ bl (U.decS n) = bl (U.decS q) ++ bs))) ∧ Hid (Only [] w wr)) (fun _ v1 _ => (RowKit.intOf v1).toNat)
    case atStart => exact ⟨_, [], n, rfl, rfl, Nat.le_refl _, ⟨by
      have := World.ownsRow_lit (base := w.heap.size) (e := 5) (size := 1) w #[] 0 (Nat.le_refl _) (by unfold maxLen; omega) rfl
      show World.ownsRow _ _ 5 1 _ 0 []
      simpa using this, by simp, by simp, .inr ⟨HPOS.out, by simp⟩⟩, (Only.refl _ _).alloc _⟩
    case round =>
      obtain ⟨rv, bs, q, rfl, rfl, hq, hst, ho⟩ := hrel
      by_cases hq0 : q = 0
      · have gq : ((q : Int) != 0) = false := by simp; omega
        have hq1 : (q : Int) = 0 := by omega
        have hb : bs = bl (U.decS n) := by
          rcases hst.out.2.2.2 with ⟨-, h⟩ | ⟨h, -⟩
          · exact h.symm
          · omega
        have hrb := hst.out.1
        have hs := hrb.str (hst.out.2.2.1)
        rw [hb, strN_bl] at hs
        clear hst hb hrb hq0
        go_wp2_with fail
        go_ret
        exact ⟨rfl, ho.out⟩
      · have gq : ((q : Int) != 0) = true := by simp; omega
        have hq1 : ¬ (q : Int) = 0 := by omega
        have hqp : (0 : Int) ≤ (q : Int) := by omega
        have hq8 : (q : Int) ≤ 10000 := by omega
        have hd := dec_step (n := n) (v := q) (bs := bs) (by omega) (by
          rcases hst.out.2.2.2 with ⟨h, -⟩ | ⟨-, h⟩
          · omega
          · exact h)
        have hlb : (bl (U.decS n)).length ≤ 20 := by rw [bl_length, U.decS_size]; exact U.nDigits_le (by omega)
        have HNEW : Hid (((48 + q % 10) :: bs).length ≤ 20 ∧ (∀ b ∈ (48 + q % 10) :: bs, b < 256) ∧ ((q / 10 = 0 ∧ bl (U.decS n) = (48 + q % 10) :: bs) ∨ (0 < q / 10 ∧ bl (U.decS n) = bl (U.decS (q / 10)) ++ ((48 + q % 10) :: bs)))) := by
          refine ⟨?_, ?_, hd⟩
          · rcases hd with ⟨-, h⟩ | ⟨-, h⟩
            · rw [← h]; exact hlb
            · rw [h, List.length_append] at hlb; omega
          · intro b hb
            rcases List.mem_cons.1 hb with rfl | hb
            · omega
            · exact hst.out.2.2.1 b hb
        have hbl := hst.out.2.1
        obtain ⟨m, hm⟩ : ∃ m, bs.length = m := ⟨_, rfl⟩
        rw [hm] at hbl
        have HM := hid hm
        have HRB := hid hst.out.1
        obtain ⟨ad2, cp2, hve, hsl, -⟩ := row_reads hst.out.1
        rw [hm] at hve hsl
        subst hve
        have HSL := hid hsl
        have hml : 1 + m ≤ maxLen := by unfold maxLen; omega
        have hmb : (1 + m) * 1 ≤ 140737488355328 := by omega
        have HSZ : Hid (w.heap.size ≤ wr.heap.size) := ho.out.size
        have HQ0 : Hid (0 < q) := by show 0 < q; omega
        have r0 : (0 : Int) ≤ (q : Int) % 10 := by omega
        have r1 : (q : Int) % 10 < 10 := by omega
        have r2 : ¬ (q : Int) % 10 < 0 := by omega
        have r3 : decide ((q : Int) % 10 < 0) = false := decide_eq_false r2
        clear hst hd hlb hm hsl hq0
        go_wp2_with (at_builtin; refine wpList_append_sl _ rfl _ _ 50 rfl w.heap.size 5 i5 _ 1 1 Tryd.underlying50 hi5 z50 z51 z52 rfl (by decide) (.slice (some ⟨wr.heap.size, 0, none⟩) 1 1) 1 (u8s [48 + q % 10]) (by rfl) ?qc1 ad2 m cp2 (u8s bs) (by rfl) ?qc2 ?qc3 ?qc5 hml hmb ?qc4 ?_)
        case qc1 =>
          have := World.ownsRow_lit (base := w.heap.size) (e := 5) (size := 1) wr #[.int .u8 (48 + (q : Int) % 10)] 1 HSZ.out (by unfold maxLen; omega) rfl
          have e : u8s [48 + q % 10] = [.int .u8 (48 + (q : Int) % 10)] := by unfold u8s; simp
          rw [e]; simpa using this
        case qc2 => rw [u8s_len, HM.out]
        case qc3 => exact HSL.out.only ((Only.refl [] wr).alloc _)
        case qc5 =>
          intro u hu
          obtain ⟨b, -, rfl⟩ := List.mem_map.1 hu
          rfl
        case qc4 => have := HSZ.out; first | (simp; done) | (simp; omega)
        intro v2 w6 hown hgrew
        have HR2 : Hid (RB w6 w.heap.size v2 ((48 + q % 10) :: bs)) := by
          show World.ownsRow _ _ _ _ _ _ _
          rw [List.length_cons, HM.out, Nat.add_comm]; exact hown
        have HO2 : Hid (Only [] w w6) := only_grow (ho.out.alloc (.cells #[.int .u8 (48 + (q : Int) % 10)] 5)) hgrew.grown (fun b hb => by have hb2 : wr.heap.size = b := Option.some.inj hb; exact .inr (by have := HSZ.out; omega))
        have hdq : ((q / 10 : Nat) : Int) = (q : Int) / 10 := by omega
        clear hown hgrew
        go_wp2_with fail
        go_roundw
        case rel => exact ⟨v2, (48 + q % 10) :: bs, q / 10, rfl, by rw [hdq], by omega, ⟨HR2.out, HNEW.out⟩, HO2.out⟩
        case measure => have := HQ0.out; first | (simp [RowKit.intOf]; done) | (simp [RowKit.intOf]; omega)
/-- an element's first tag -/
def tagS (x : Nd) : ByteArray := strN (tagB x)
theorem aNm_size6 (j : Nat) : (aNm j).size ≤ 100 := by have := aNm_size j; omega
set_option maxRecDepth 100000 in
set_option maxHeartbeats 8000000 in
theorem refOpen_c (x : Nd × Value) (ht : 0 ≤ x.1.tol ∧ x.1.tol ≤ 10000) (hfo : x.1.font.size ≤ 100) (w : World) : Calls Tryd.prog 37 #[.agg (ndc x).toArray] w fun e w' => e = .returned (.string (tagS x.1)) ∧ Only [] w w' := by
  obtain ⟨xn, xv⟩ := x
  dsimp only at ht hfo ⊢
  obtain ⟨ht0, ht1⟩ := ht
  obtain ⟨tn, htn⟩ : ∃ tn : Nat, xn.tol = (tn : Int) := ⟨xn.tol.toNat, by omega⟩
  have htol : aVl xn 6 = U.decS tn := by
    show tolS xn.tol = _
    rw [tolS_dec ht0, htn, Int.toNat_natCast]
  have hsz : ∀ j, j < 7 → (aVl xn j).size ≤ 100 := fun j hj => by
    obtain rfl | rfl | rfl | rfl | rfl | rfl | rfl : j = 0 ∨ j = 1 ∨ j = 2 ∨ j = 3 ∨ j = 4 ∨ j = 5 ∨ j = 6 := by omega
    · have := prT_size xn.width; show (prT xn.width).size ≤ 100; omega
    · have := prT_size xn.height; show (prT xn.height).size ≤ 100; omega
    · exact hfo
    · have := prT_size xn.size; show (prT xn.size).size ≤ 100; omega
    · have := prT_size xn.lead; show (prT xn.lead).size ≤ 100; omega
    · have := prT_size xn.skip; show (prT xn.skip).size ≤ 100; omega
    · have := tolS_size ht0 ht1; show (tolS xn.tol).size ≤ 100; omega
  have HDG := hid (fun W => digits_c tn (by omega) W)
  have HNM := hid (fun W => refName2_c xn.kind W)
  have HV0 := hid (fun W => refValue9_c (bits .and .i64 xn.has 4 != 0) { data := #[119, 105, 100, 116, 104] } (prT xn.width) (by decide) (hsz 0 (by decide)) W)
  obtain ⟨t0, ht0'⟩ : ∃ t, attS (bits .and .i64 xn.has 4 != 0) { data := #[119, 105, 100, 116, 104] } (prT xn.width) = t := ⟨_, rfl⟩
  have hb0 : Hid (bl t0 = attB xn 0) := by show _ = _; rw [← ht0', ← attS_bl]; rfl
  have hs0 : t0.size ≤ 300 := by rw [← ht0']; exact attS_size (by decide) (hsz 0 (by decide))
  rw [ht0'] at HV0
  clear ht0'
  have HV1 := hid (fun W => refValue9_c (bits .and .i64 xn.has 8 != 0) { data := #[104, 101, 105, 103, 104, 116] } (prT xn.height) (by decide) (hsz 1 (by decide)) W)
  obtain ⟨t1, ht1'⟩ : ∃ t, attS (bits .and .i64 xn.has 8 != 0) { data := #[104, 101, 105, 103, 104, 116] } (prT xn.height) = t := ⟨_, rfl⟩
  have hb1 : Hid (bl t1 = attB xn 1) := by show _ = _; rw [← ht1', ← attS_bl]; rfl
  have hs1 : t1.size ≤ 300 := by rw [← ht1']; exact attS_size (by decide) (hsz 1 (by decide))
  rw [ht1'] at HV1
  clear ht1'
  have HV2 := hid (fun W => refValue9_c (bits .and .i64 xn.has 1 != 0) { data := #[102, 111, 110, 116] } xn.font (by decide) (hsz 2 (by decide)) W)
  obtain ⟨t2, ht2'⟩ : ∃ t, attS (bits .and .i64 xn.has 1 != 0) { data := #[102, 111, 110, 116] } xn.font = t := ⟨_, rfl⟩
  have hb2 : Hid (bl t2 = attB xn 2) := by show _ = _; rw [← ht2', ← attS_bl]; rfl
  have hs2 : t2.size ≤ 300 := by rw [← ht2']; exact attS_size (by decide) (hsz 2 (by decide))
  rw [ht2'] at HV2
  clear ht2'
  have HV3 := hid (fun W => refValue9_c (bits .and .i64 xn.has 2 != 0) { data := #[115, 105, 122, 101] } (prT xn.size) (by decide) (hsz 3 (by decide)) W)
  obtain ⟨t3, ht3'⟩ : ∃ t, attS (bits .and .i64 xn.has 2 != 0) { data := #[115, 105, 122, 101] } (prT xn.size) = t := ⟨_, rfl⟩
  have hb3 : Hid (bl t3 = attB xn 3) := by show _ = _; rw [← ht3', ← attS_bl]; rfl
  have hs3 : t3.size ≤ 300 := by rw [← ht3']; exact attS_size (by decide) (hsz 3 (by decide))
  rw [ht3'] at HV3
  clear ht3'
  have HV4 := hid (fun W => refValue9_c (bits .and .i64 xn.has 16 != 0) { data := #[108, 101, 97, 100] } (prT xn.lead) (by decide) (hsz 4 (by decide)) W)
  obtain ⟨t4, ht4'⟩ : ∃ t, attS (bits .and .i64 xn.has 16 != 0) { data := #[108, 101, 97, 100] } (prT xn.lead) = t := ⟨_, rfl⟩
  have hb4 : Hid (bl t4 = attB xn 4) := by show _ = _; rw [← ht4', ← attS_bl]; rfl
  have hs4 : t4.size ≤ 300 := by rw [← ht4']; exact attS_size (by decide) (hsz 4 (by decide))
  rw [ht4'] at HV4
  clear ht4'
  have HV5 := hid (fun W => refValue9_c (bits .and .i64 xn.has 32 != 0) { data := #[115, 107, 105, 112] } (prT xn.skip) (by decide) (hsz 5 (by decide)) W)
  obtain ⟨t5, ht5'⟩ : ∃ t, attS (bits .and .i64 xn.has 32 != 0) { data := #[115, 107, 105, 112] } (prT xn.skip) = t := ⟨_, rfl⟩
  have hb5 : Hid (bl t5 = attB xn 5) := by show _ = _; rw [← ht5', ← attS_bl]; rfl
  have hs5 : t5.size ≤ 300 := by rw [← ht5']; exact attS_size (by decide) (hsz 5 (by decide))
  rw [ht5'] at HV5
  clear ht5'
  have HV6 := hid (fun W => refValue9_c (bits .and .i64 xn.has 64 != 0) { data := #[116, 111, 108] } (U.decS tn) (by decide) (htol ▸ hsz 6 (by decide)) W)
  obtain ⟨t6, ht6'⟩ : ∃ t, attS (bits .and .i64 xn.has 64 != 0) { data := #[116, 111, 108] } (U.decS tn) = t := ⟨_, rfl⟩
  have hb6 : Hid (bl t6 = attB xn 6) := by show _ = _; rw [← ht6', ← attS_bl]; rw [htol]; rfl
  have hs6 : t6.size ≤ 300 := by rw [← ht6']; exact attS_size (by decide) (htol ▸ hsz 6 (by decide))
  rw [ht6'] at HV6
  clear ht6'
  obtain ⟨nmS, hnmS⟩ : ∃ t, nameS xn.kind = t := ⟨_, rfl⟩
  have hbn : Hid (bl nmS = nameB xn.kind) := by show _ = _; rw [← hnmS]; exact nameS_bl _
  have hsn : nmS.size ≤ 3 := by rw [← hnmS]; exact nameS_size _
  rw [hnmS] at HNM
  clear hnmS hsz htol ht0 ht1
  unfold ndc
  dsimp only
  rw [htn]
  have q0 : ¬ 9223372036854775807 < 1 + nmS.size := by omega
  go_enter Tryd.func37, Tryd.ntmps37
  go_wp2_with fail
  refine (HNM.out _).mono ?_
  rintro e w1 ⟨rfl, rfl⟩
  have HF0 : Hid (bl ({ data := #[60] } ++ nmS) = 60 :: nameB xn.kind) := by show _ = _; rw [U.bl_append, hbn.out]; rfl
  have hz0 : ({ data := #[60] } ++ nmS : ByteArray).size ≤ 4 := by rw [ByteArray.size_append]; show 1 + nmS.size ≤ 4; omega
  go_wp2_with fail
  refine (refLong_c xn.width _).mono ?_
  rintro e wx ⟨rfl, rfl⟩
  go_wp2_with fail
  refine (HV0.out _).mono ?_
  rintro e wx ⟨rfl, rfl⟩
  obtain ⟨s0, hs0e⟩ : ∃ s, ({ data := #[60] } ++ nmS : ByteArray) = s := ⟨_, rfl⟩
  rw [hs0e] at HF0 hz0 ⊢
  clear hs0e
  have q1 : ¬ 9223372036854775807 < s0.size + t0.size := by omega
  have HF1 : Hid (bl (s0 ++ t0) = bl s0 ++ attB xn 0) := by show _ = _; rw [U.bl_append, hb0.out]
  have hz1 : (s0 ++ t0).size ≤ 304 := by rw [ByteArray.size_append]; omega
  obtain ⟨s1, hs1e⟩ : ∃ s, s0 ++ t0 = s := ⟨_, rfl⟩
  have HE1 := hid hs1e
  rw [hs1e] at HF1 hz1
  clear hs1e
  go_wp2_with fail
  rw [HE1.out]
  refine (refLong_c xn.height _).mono ?_
  rintro e wx ⟨rfl, rfl⟩
  go_wp2_with fail
  refine (HV1.out _).mono ?_
  rintro e wx ⟨rfl, rfl⟩
  have q2 : ¬ 9223372036854775807 < s1.size + t1.size := by omega
  have HF2 : Hid (bl (s1 ++ t1) = bl s1 ++ attB xn 1) := by show _ = _; rw [U.bl_append, hb1.out]
  have hz2 : (s1 ++ t1).size ≤ 604 := by rw [ByteArray.size_append]; omega
  obtain ⟨s2, hs2e⟩ : ∃ s, s1 ++ t1 = s := ⟨_, rfl⟩
  have HE2 := hid hs2e
  rw [hs2e] at HF2 hz2
  clear hs2e
  go_wp2_with fail
  rw [HE2.out]
  refine (HV2.out _).mono ?_
  rintro e wx ⟨rfl, rfl⟩
  have q3 : ¬ 9223372036854775807 < s2.size + t2.size := by omega
  have HF3 : Hid (bl (s2 ++ t2) = bl s2 ++ attB xn 2) := by show _ = _; rw [U.bl_append, hb2.out]
  have hz3 : (s2 ++ t2).size ≤ 904 := by rw [ByteArray.size_append]; omega
  obtain ⟨s3, hs3e⟩ : ∃ s, s2 ++ t2 = s := ⟨_, rfl⟩
  have HE3 := hid hs3e
  rw [hs3e] at HF3 hz3
  clear hs3e
  go_wp2_with fail
  rw [HE3.out]
  refine (refLong_c xn.size _).mono ?_
  rintro e wx ⟨rfl, rfl⟩
  go_wp2_with fail
  refine (HV3.out _).mono ?_
  rintro e wx ⟨rfl, rfl⟩
  have q4 : ¬ 9223372036854775807 < s3.size + t3.size := by omega
  have HF4 : Hid (bl (s3 ++ t3) = bl s3 ++ attB xn 3) := by show _ = _; rw [U.bl_append, hb3.out]
  have hz4 : (s3 ++ t3).size ≤ 1204 := by rw [ByteArray.size_append]; omega
  obtain ⟨s4, hs4e⟩ : ∃ s, s3 ++ t3 = s := ⟨_, rfl⟩
  have HE4 := hid hs4e
  rw [hs4e] at HF4 hz4
  clear hs4e
  go_wp2_with fail
  rw [HE4.out]
  refine (refLong_c xn.lead _).mono ?_
  rintro e wx ⟨rfl, rfl⟩
  go_wp2_with fail
  refine (HV4.out _).mono ?_
  rintro e wx ⟨rfl, rfl⟩
  have q5 : ¬ 9223372036854775807 < s4.size + t4.size := by omega
  have HF5 : Hid (bl (s4 ++ t4) = bl s4 ++ attB xn 4) := by show _ = _; rw [U.bl_append, hb4.out]
  have hz5 : (s4 ++ t4).size ≤ 1504 := by rw [ByteArray.size_append]; omega
  obtain ⟨s5, hs5e⟩ : ∃ s, s4 ++ t4 = s := ⟨_, rfl⟩
  have HE5 := hid hs5e
  rw [hs5e] at HF5 hz5
  clear hs5e
  go_wp2_with fail
  rw [HE5.out]
  refine (refLong_c xn.skip _).mono ?_
  rintro e wx ⟨rfl, rfl⟩
  go_wp2_with fail
  refine (HV5.out _).mono ?_
  rintro e wx ⟨rfl, rfl⟩
  have q6 : ¬ 9223372036854775807 < s5.size + t5.size := by omega
  have HF6 : Hid (bl (s5 ++ t5) = bl s5 ++ attB xn 5) := by show _ = _; rw [U.bl_append, hb5.out]
  have hz6 : (s5 ++ t5).size ≤ 1804 := by rw [ByteArray.size_append]; omega
  obtain ⟨s6, hs6e⟩ : ∃ s, s5 ++ t5 = s := ⟨_, rfl⟩
  have HE6 := hid hs6e
  rw [hs6e] at HF6 hz6
  clear hs6e
  go_wp2_with fail
  rw [HE6.out]
  refine (HDG.out _).mono ?_
  rintro e w2 ⟨rfl, o2⟩
  have HO2 := hid o2
  clear o2
  go_wp2_with fail
  refine (HV6.out _).mono ?_
  rintro e wx ⟨rfl, rfl⟩
  have q7 : ¬ 9223372036854775807 < s6.size + t6.size := by omega
  have HF7 : Hid (bl (s6 ++ t6) = bl s6 ++ attB xn 6) := by show _ = _; rw [U.bl_append, hb6.out]
  have hz7 : (s6 ++ t6).size ≤ 2104 := by rw [ByteArray.size_append]; omega
  obtain ⟨s7, hs7e⟩ : ∃ s, s6 ++ t6 = s := ⟨_, rfl⟩
  have HE7 := hid hs7e
  rw [hs7e] at HF7 hz7
  clear hs7e
  have q8 : ¬ 9223372036854775807 < s7.size + 1 := by omega
  go_wp2_with fail
  go_ret
  have HFIN : s6 ++ t6 ++ { data := #[62] } = tagS xn := by
    apply bl_inj
    rw [HE7.out, U.bl_append, HF7.out, HF6.out, HF5.out, HF4.out, HF3.out, HF2.out, HF1.out, HF0.out]
    unfold tagS
    rw [bl_strN _ (tagB_lt xn)]
    unfold tagB attsB
    rw [show List.range 7 = [0, 1, 2, 3, 4, 5, 6] from rfl]
    simp
    rfl
  rw [HFIN]
  exact ⟨rfl, ((Only.refl _ _).alloc _).trans HO2.out⟩
end Go.Proofs.YtmlhibcbgdhadaaDoor
