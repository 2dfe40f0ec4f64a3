/- What is printed of a node tells the node. -/
import Derived.Test.YtmlhibcbgdhadaaDoorPrn
import Derived.Test.YtmlhibcbgdhadaaDoorSame1
namespace Go.Proofs.YtmlhibcbgdhadaaDoor
open Go.RowKit

/-! ### the bits -/
theorem wrap_nat_zero {n : Nat} (hn : n < 18446744073709551616) (h : IntKind.i64.wrap (n : Int) = 0) : n = 0 := by
  rw [IntKind.wrap_i64] at h; omega
theorem bits_zero {a b : BitVec 64} (h : IntKind.i64.wrap ((a &&& b).toNat : Nat) = 0) : a &&& b = 0#64 := by
  have := wrap_nat_zero (a &&& b).isLt h
  exact BitVec.eq_of_toNat_eq (by simpa using this)
theorem has_nat {h m : Int} {k : Nat} (hm : m = ((2 ^ k - 1 : Nat) : Int)) (hk : k ≤ 7) (hf : I64 h) (hz : bits .andNot .i64 h m = 0) : 0 ≤ h ∧ h < 2 ^ k := by
  unfold bits at hz
  dsimp only at hz
  have h0 := bits_zero (a := BitVec.ofInt 64 h) (b := ~~~(BitVec.ofInt 64 m)) hz
  have hle : (BitVec.ofInt 64 h).toNat < 2 ^ k := by
    refine Nat.lt_pow_two_of_testBit _ fun i hi => ?_
    rcases Nat.lt_or_ge i 64 with q | q
    · have e : (BitVec.ofInt 64 h &&& ~~~(BitVec.ofInt 64 m)).getLsbD i = (0#64).getLsbD i := by rw [h0]
      have e2 : (BitVec.ofInt 64 m).getLsbD i = false := by
        subst hm
        rw [BitVec.ofInt_natCast, BitVec.getLsbD_ofNat]
        rw [Nat.testBit_two_pow_sub_one]
        simp; omega
      rw [BitVec.getLsbD_and, BitVec.getLsbD_not, e2] at e
      simp only [q, decide_true, Bool.not_false, Bool.and_true, BitVec.getLsbD_zero] at e
      exact e
    · exact Nat.testBit_lt_two_pow (Nat.lt_of_lt_of_le (BitVec.isLt _) (Nat.pow_le_pow_right (by decide) q))
  rw [BitVec.toNat_ofInt] at hle
  obtain ⟨f1, f2⟩ := hf
  have h2 : (2 : Nat) ^ k ≤ 128 := by
    have := Nat.pow_le_pow_right (show 0 < 2 by decide) hk
    simpa using this
  have hc : ((2 ^ k : Nat) : Int) = (2 : Int) ^ k := by simp
  rw [← hc]
  generalize 2 ^ k = K at *
  have e64 : ((2 ^ 64 : Nat) : Int) = 18446744073709551616 := by decide
  rw [e64] at hle
  omega
theorem has_le {x : Nd} (hf : I64 x.has) (h : atr x = true) : 0 ≤ x.has ∧ x.has < 128 := by
  have hz : bits .andNot .i64 x.has (may x.kind) = 0 := by
    rw [atr_eq] at h
    simp only [Bool.and_eq_true, beq_iff_eq] at h
    exact h.1.1
  unfold may at hz
  split at hz
  · exact has_nat (k := 7) (by decide) (by decide) hf hz
  · split at hz
    · have e : ∀ b : BitVec 64, b &&& ~~~(BitVec.ofInt 64 115) = 0#64 → b &&& ~~~(BitVec.ofInt 64 127) = 0#64 := fun b hb => by
        have e1 : ~~~(BitVec.ofInt 64 127) = ~~~(BitVec.ofInt 64 115) &&& ~~~(BitVec.ofInt 64 127) := by decide
        rw [e1, ← BitVec.and_assoc, hb, BitVec.zero_and]
      have h0 := e _ (bits_zero (a := BitVec.ofInt 64 x.has) (b := ~~~(BitVec.ofInt 64 115)) hz)
      refine has_nat (m := 127) (k := 7) (by decide) (by decide) hf ?_
      show IntKind.i64.wrap ((BitVec.ofInt 64 x.has &&& ~~~(BitVec.ofInt 64 127)).toNat : Nat) = 0
      rw [h0]; rfl
    · split at hz
      · have := has_nat (k := 2) (by decide) (by decide) hf hz
        omega
      · have := has_nat (k := 0) (by decide) (by decide) hf hz
        omega
def hasS (h : Nat) : Nat := (if bits .and .i64 (h : Int) 1 != 0 then 1 else 0) + (if bits .and .i64 (h : Int) 2 != 0 then 2 else 0) + (if bits .and .i64 (h : Int) 4 != 0 then 4 else 0) + (if bits .and .i64 (h : Int) 8 != 0 then 8 else 0) + (if bits .and .i64 (h : Int) 16 != 0 then 16 else 0) + (if bits .and .i64 (h : Int) 32 != 0 then 32 else 0) + (if bits .and .i64 (h : Int) 64 != 0 then 64 else 0)
theorem hasS_all : ∀ h : Fin 128, hasS h.val = h.val := by decide +kernel
theorem has_eq {x y : Nd} (hx : I64 x.has) (hy : I64 y.has) (ax : atr x = true) (ay : atr y = true) (h : ∀ j, j < 7 → hb x (aBit j) = hb y (aBit j)) : x.has = y.has := by
  obtain ⟨x0, x1⟩ := has_le hx ax
  obtain ⟨y0, y1⟩ := has_le hy ay
  obtain ⟨a, ha⟩ : ∃ a : Nat, x.has = (a : Int) := ⟨x.has.toNat, by omega⟩
  obtain ⟨b, hb'⟩ : ∃ b : Nat, y.has = (b : Int) := ⟨y.has.toNat, by omega⟩
  have h0 : hb x 4 = hb y 4 := h 0 (by decide)
  have h1 : hb x 8 = hb y 8 := h 1 (by decide)
  have h2 : hb x 1 = hb y 1 := h 2 (by decide)
  have h3 : hb x 2 = hb y 2 := h 3 (by decide)
  have h4 : hb x 16 = hb y 16 := h 4 (by decide)
  have h5 : hb x 32 = hb y 32 := h 5 (by decide)
  have h6 : hb x 64 = hb y 64 := h 6 (by decide)
  unfold hb at h0 h1 h2 h3 h4 h5 h6
  rw [ha, hb'] at h0 h1 h2 h3 h4 h5 h6
  have e1 := hasS_all ⟨a, by omega⟩
  have e2 := hasS_all ⟨b, by omega⟩
  have e : hasS a = hasS b := by unfold hasS; rw [h0, h1, h2, h3, h4, h5, h6]
  dsimp only at e1 e2
  rw [ha, hb', ← e1, ← e2, e]

/-! ### what stands ahead of a sign is told by it -/
theorem split_at {s : Nat} : ∀ {u v X Y : List Nat}, s ∉ u → s ∉ v → u ++ s :: X = v ++ s :: Y → u = v ∧ X = Y
  | [], [], X, Y, _, _, h => by simpa using h
  | [], b :: v, X, Y, _, hv, h => by simp at h; exact absurd (by simp [h.1]) hv
  | a :: u, [], X, Y, hu, _, h => by simp at h; exact absurd (by simp [h.1]) hu
  | a :: u, b :: v, X, Y, hu, hv, h => by
    simp only [List.cons_append, List.cons.injEq] at h
    obtain ⟨e1, e2⟩ := split_at (fun q => hu (List.mem_cons_of_mem _ q)) (fun q => hv (List.mem_cons_of_mem _ q)) h.2
    exact ⟨by rw [h.1, e1], e2⟩
theorem bl_inj {s t : ByteArray} (h : bl s = bl t) : s = t := by
  have hh : s.data.toList = t.data.toList := by
    unfold bl at h
    exact (List.map_inj_right (fun a b q => UInt8.toNat_inj.1 q)).1 h
  cases s; cases t
  simp only at hh
  rw [Array.toList_inj.1 hh]
theorem prS_no {n c : Nat} (h : c ∈ bl (U.prS n)) : c ≠ 34 := by
  unfold U.prS at h
  split at h
  · have := (U.bl_dec _).1 c h; omega
  · rw [U.bl_append] at h
    rcases List.mem_append.1 h with h | h
    · have := (U.bl_dec _).1 c h; omega
    · have : c ∈ [115, 112] := h
      simp at this; omega
theorem prT_no {n : Int} {c : Nat} (h : c ∈ bl (prT n)) : c ≠ 34 := by
  unfold prT at h
  split at h
  · exact prS_no h
  · cases h
theorem tolS_dec {n : Int} (h0 : 0 ≤ n) : tolS n = U.decS n.toNat := by
  unfold tolS U.decS Lib.itoa
  rw [if_neg (by omega)]
theorem aVl_no {x : Nd} (h : atr x = true) {j : Nat} (hj : j < 7) (hb' : hb x (aBit j) = true) : 34 ∉ bl (aVl x j) := by
  have ho := okA_of h hj
  unfold okA at ho
  rw [if_pos hb'] at ho
  intro hm
  obtain rfl | rfl | rfl | rfl | rfl | rfl | rfl : j = 0 ∨ j = 1 ∨ j = 2 ∨ j = 3 ∨ j = 4 ∨ j = 5 ∨ j = 6 := by omega
  · exact prT_no hm rfl
  · exact prT_no hm rfl
  · have h1 : nam x.font = true := ho
    unfold nam at h1
    simp only [Bool.and_eq_true] at h1
    have := List.all_eq_true.1 h1.2 34 hm
    exact absurd this (by decide)
  · exact prT_no hm rfl
  · exact prT_no hm rfl
  · exact prT_no hm rfl
  · have h1 : tolB x.tol = true := ho
    unfold tolB at h1
    have h2 := of_decide_eq_true h1
    have hm2 : 34 ∈ bl (tolS x.tol) := hm
    rw [tolS_dec h2.1] at hm2
    have := (U.bl_dec _).1 34 hm2
    omega
theorem aNm_no (j : Nat) : 61 ∉ bl (aNm j) := by
  unfold aNm
  split <;> decide
theorem aNm_inj : ∀ i j : Fin 7, bl (aNm i.val) = bl (aNm j.val) → i = j := by decide
theorem attB_on {x : Nd} {j : Nat} (h : hb x (aBit j) = true) (X : List Nat) : attB x j ++ X = 32 :: (bl (aNm j) ++ 61 :: (34 :: (bl (aVl x j) ++ 34 :: X))) := by
  unfold attB; rw [if_pos h]; simp
theorem attB_off {x : Nd} {j : Nat} (h : hb x (aBit j) = false) : attB x j = [] := by
  unfold attB; rw [h]; rfl
/-- what stands at the front of some attributes -/
theorem atts_front {x : Nd} (Z : List Nat) : ∀ L : List Nat, (L.flatMap (attB x) ++ 62 :: Z = 62 :: Z) ∨ ∃ k ∈ L, ∃ Y, L.flatMap (attB x) ++ 62 :: Z = 32 :: (bl (aNm k) ++ 61 :: Y)
  | [] => .inl rfl
  | j :: L => by
    rw [List.flatMap_cons, List.append_assoc]
    cases hj : hb x (aBit j)
    · rw [attB_off hj, List.nil_append]
      rcases atts_front Z L with h | ⟨k, hk, Y, h⟩
      · exact .inl h
      · exact .inr ⟨k, List.mem_cons_of_mem _ hk, Y, h⟩
    · rw [attB_on hj]
      exact .inr ⟨j, List.mem_cons_self, _, rfl⟩
theorem atts_inj {x y : Nd} (ax : atr x = true) (ay : atr y = true) {Y Z : List Nat} : ∀ L : List Nat, (∀ j ∈ L, j < 7) → L.Nodup → L.flatMap (attB x) ++ 62 :: Y = L.flatMap (attB y) ++ 62 :: Z → (∀ j ∈ L, hb x (aBit j) = hb y (aBit j) ∧ (hb x (aBit j) = true → aVl x j = aVl y j)) ∧ Y = Z
  | [], _, _, h => ⟨(by intro j hj; cases hj), by simpa using h⟩
  | j :: L, hL, hN, h => by
    have hj := hL j List.mem_cons_self
    have hL' : ∀ k ∈ L, k < 7 := fun k hk => hL k (List.mem_cons_of_mem _ hk)
    obtain ⟨hn1, hn2⟩ := List.nodup_cons.1 hN
    rw [List.flatMap_cons, List.flatMap_cons, List.append_assoc, List.append_assoc] at h
    have cross : ∀ {a b : Nd} {A B : List Nat}, hb a (aBit j) = true → attB a j ++ A = L.flatMap (attB b) ++ 62 :: B → False := fun {a b A B} ha hh => by
      rw [attB_on ha] at hh
      rcases atts_front (x := b) B L with e | ⟨k, hk, Q, e⟩
      · rw [e] at hh; simp at hh
      · rw [e] at hh
        have h1 := (List.cons.inj hh).2
        have := (split_at (aNm_no j) (aNm_no k) h1).1
        have := aNm_inj ⟨j, hj⟩ ⟨k, hL' k hk⟩ this
        simp at this
        exact hn1 (this ▸ hk)
    cases hx : hb x (aBit j) <;> cases hy : hb y (aBit j)
    · rw [attB_off hx, attB_off hy, List.nil_append, List.nil_append] at h
      obtain ⟨h1, h2⟩ := atts_inj ax ay L hL' hn2 h
      refine ⟨fun k hk => ?_, h2⟩
      rcases List.mem_cons.1 hk with rfl | hk
      · exact ⟨by rw [hx, hy], fun q => by rw [hx] at q; cases q⟩
      · exact h1 k hk
    · rw [attB_off hx, List.nil_append] at h
      exact (cross hy h.symm).elim
    · rw [attB_off hy, List.nil_append] at h
      exact (cross hx h).elim
    · rw [attB_on hx, attB_on hy] at h
      have h1 := (List.cons.inj h).2
      have h2 := (split_at (aNm_no j) (aNm_no j) h1).2
      have h3 := (List.cons.inj h2).2
      obtain ⟨h4, h5⟩ := split_at (aVl_no ax hj hx) (aVl_no ay hj hy) h3
      obtain ⟨h6, h7⟩ := atts_inj ax ay L hL' hn2 h5
      refine ⟨fun k hk => ?_, h7⟩
      rcases List.mem_cons.1 hk with rfl | hk
      · exact ⟨by rw [hx, hy], fun _ => bl_inj h4⟩
      · exact h6 k hk

/-! ### values -/
theorem prT_inj {a b : Int} (ha : 0 ≤ a ∧ a ≤ 70368744177664) (hb : 0 ≤ b ∧ b ≤ 70368744177664) (h : prT a = prT b) : a = b := by
  unfold prT at h
  rw [if_pos ha, if_pos hb] at h
  have := U.prS_inj (congrArg bl h)
  omega
theorem rt_in {n lo hi : Int} (h : rt n lo hi = true) : 0 ≤ n ∧ n ≤ 70368744177664 := by
  unfold rt pe at h
  simp only [Bool.and_eq_true, decide_eq_true_eq] at h
  by_cases q : 0 ≤ n ∧ n ≤ 70368744177664
  · exact q
  · rw [if_neg q] at h; exact absurd h.1.1 (by decide)
theorem size0 {s : ByteArray} (h : s.size = 0) : s = ⟨#[]⟩ := U.size_zero h
theorem vals_eq {x y : Nd} (ax : atr x = true) (ay : atr y = true) (h : ∀ j, j < 7 → hb x (aBit j) = hb y (aBit j) ∧ (hb x (aBit j) = true → aVl x j = aVl y j)) :
    x.font = y.font ∧ x.size = y.size ∧ x.width = y.width ∧ x.height = y.height ∧ x.lead = y.lead ∧ x.skip = y.skip ∧ x.tol = y.tol := by
  have num : ∀ j, j < 7 → ∀ (u v : Int), (aVl x j = prT u ∧ aVl y j = prT v) → (hb x (aBit j) = true → aR x j = true → (0 ≤ u ∧ u ≤ 70368744177664)) → (hb x (aBit j) = false → aZ x j = true → u = 0) → (hb y (aBit j) = true → aR y j = true → (0 ≤ v ∧ v ≤ 70368744177664)) → (hb y (aBit j) = false → aZ y j = true → v = 0) → u = v := by
    intro j hj u v hv h1 h2 h3 h4
    have ox := okA_of ax hj
    have oy := okA_of ay hj
    unfold okA at ox oy
    obtain ⟨e1, e2⟩ := h j hj
    cases hx : hb x (aBit j)
    · rw [hx] at ox e1
      rw [← e1] at oy
      rw [h2 hx (by simpa using ox), h4 e1.symm (by simpa using oy)]
    · rw [hx] at ox e1
      rw [← e1] at oy
      have e3 := e2 hx
      rw [hv.1, hv.2] at e3
      exact prT_inj (h1 hx (by simpa using ox)) (h3 e1.symm (by simpa using oy)) e3
  refine ⟨?_, ?_, ?_, ?_, ?_, ?_, ?_⟩
  · have ox := okA_of ax (j := 2) (by decide)
    have oy := okA_of ay (j := 2) (by decide)
    unfold okA at ox oy
    obtain ⟨e1, e2⟩ := h 2 (by decide)
    cases hx : hb x (aBit 2)
    · rw [hx] at ox e1
      rw [← e1] at oy
      have h1 : decide (x.font.size = 0) = true := ox
      have h2 : decide (y.font.size = 0) = true := oy
      rw [size0 (of_decide_eq_true h1), size0 (of_decide_eq_true h2)]
    · exact e2 hx
  · exact num 3 (by decide) _ _ ⟨rfl, rfl⟩ (fun _ q => rt_in q) (fun _ q => by simpa using (show (x.size == 0) = true from q)) (fun _ q => rt_in q) (fun _ q => by simpa using (show (y.size == 0) = true from q))
  · exact num 0 (by decide) _ _ ⟨rfl, rfl⟩ (fun _ q => rt_in q) (fun _ q => by simpa using (show (x.width == 0) = true from q)) (fun _ q => rt_in q) (fun _ q => by simpa using (show (y.width == 0) = true from q))
  · exact num 1 (by decide) _ _ ⟨rfl, rfl⟩ (fun _ q => rt_in q) (fun _ q => by simpa using (show (x.height == 0) = true from q)) (fun _ q => rt_in q) (fun _ q => by simpa using (show (y.height == 0) = true from q))
  · exact num 4 (by decide) _ _ ⟨rfl, rfl⟩ (fun _ q => rt_in q) (fun _ q => by simpa using (show (x.lead == 0) = true from q)) (fun _ q => rt_in q) (fun _ q => by simpa using (show (y.lead == 0) = true from q))
  · exact num 5 (by decide) _ _ ⟨rfl, rfl⟩ (fun _ q => rt_in q) (fun _ q => by simpa using (show (x.skip == 0) = true from q)) (fun _ q => rt_in q) (fun _ q => by simpa using (show (y.skip == 0) = true from q))
  · have ox := okA_of ax (j := 6) (by decide)
    have oy := okA_of ay (j := 6) (by decide)
    unfold okA at ox oy
    obtain ⟨e1, e2⟩ := h 6 (by decide)
    cases hx : hb x (aBit 6)
    · rw [hx] at ox e1
      rw [← e1] at oy
      have h1 : (x.tol == 0) = true := ox
      have h2 : (y.tol == 0) = true := oy
      have h1 : x.tol = 0 := by simpa using h1
      have h2 : y.tol = 0 := by simpa using h2
      rw [h1, h2]
    · rw [hx] at ox e1
      rw [← e1] at oy
      have h1 : tolB x.tol = true := ox
      have h2 : tolB y.tol = true := oy
      have e3 : tolS x.tol = tolS y.tol := e2 hx
      unfold tolB at h1 h2
      have h1 := of_decide_eq_true h1
      have h2 := of_decide_eq_true h2
      rw [tolS_dec h1.1, tolS_dec h2.1] at e3
      have := U.decS_inj (congrArg bl e3)
      omega

/-! ### runes -/
theorem isR_nat {r : Int} (h : isR r = true) : 0 ≤ r ∧ isRune r.toNat = true := by
  unfold isR at h
  simpa using h
theorem tx_inj {r s : Nat} (hr : isRune r = true) (hs : isRune s = true) {X Y : List Nat} (h : tx r ++ X = tx s ++ Y) : r = s ∧ X = Y := by
  have h1 := chr_tx hr X
  have h2 := chr_tx hs Y
  rw [h, h2] at h1
  injection h1 with h1
  injection h1 with h1 h3
  refine ⟨h1.symm, ?_⟩
  rw [h1] at h
  exact List.append_cancel_left h
/-- nothing, or '<' -/
def Lt (X : List Nat) : Prop := X = [] ∨ ∃ Y, X = 60 :: Y
theorem tx_lt60 {r : Nat} (hr : isRune r = true) {X Y : List Nat} (hY : Lt Y) (h : tx r ++ X = Y) : False := by
  obtain ⟨b, l, e, hb⟩ := tx_head hr
  rw [e] at h
  rcases hY with rfl | ⟨Z, rfl⟩
  · cases h
  · simp at h; exact hb h.1
theorem txs_inj {X Y : List Nat} (hX : Lt X) (hY : Lt Y) : ∀ (a b : List (Int × Int × Int)), (∀ x ∈ a, isR x.1 = true) → (∀ x ∈ b, isR x.1 = true) → (a.flatMap fun x => tx x.1.toNat) ++ X = (b.flatMap fun x => tx x.1.toNat) ++ Y → a.map (·.1) = b.map (·.1) ∧ X = Y
  | [], [], _, _, h => ⟨rfl, by simpa using h⟩
  | [], y :: b, _, hb, h => by
    rw [List.flatMap_nil, List.nil_append, List.flatMap_cons, List.append_assoc] at h
    exact (tx_lt60 (isR_nat (hb y List.mem_cons_self)).2 hX h.symm).elim
  | x :: a, [], ha, _, h => by
    rw [List.flatMap_nil, List.nil_append, List.flatMap_cons, List.append_assoc] at h
    exact (tx_lt60 (isR_nat (ha x List.mem_cons_self)).2 hY h).elim
  | x :: a, y :: b, ha, hb, h => by
    rw [List.flatMap_cons, List.append_assoc, List.flatMap_cons, List.append_assoc] at h
    have i1 := isR_nat (ha x List.mem_cons_self)
    have i2 := isR_nat (hb y List.mem_cons_self)
    obtain ⟨e1, e2⟩ := tx_inj i1.2 i2.2 h
    obtain ⟨e3, e4⟩ := txs_inj hX hY a b (fun z hz => ha z (List.mem_cons_of_mem _ hz)) (fun z hz => hb z (List.mem_cons_of_mem _ hz)) e2
    refine ⟨?_, e4⟩
    rw [List.map_cons, List.map_cons, e3]
    congr 1
    omega

/-! ### a node -/
/-- a node that may be, as it is printed by itself -/
structure Pr (x : Nd) : Prop where
  fit : I64 x.has
  atr : atr x = true
  kind : 1 ≤ x.kind ∧ x.kind ≤ 5
  text : x.kind = 4 → x.chs ≠ [] ∧ (textM x.chs).isSome = true
  none : x.kind ≠ 4 → x.chs = []
theorem textM_some {l : List (Int × Int × Int)} (h : (textM l).isSome = true) : (∀ x ∈ l, isR x.1 = true) ∧ textM l = some (l.flatMap fun x => tx x.1.toNat) := by
  unfold textM at h ⊢
  split
  · next ha => exact ⟨List.all_eq_true.1 ha, rfl⟩
  · next ha => rw [if_neg ha] at h; cases h
theorem item_text {x : Nd} (h : Pr x) (h4 : x.kind = 4) : itemB x = x.chs.flatMap (fun x => tx x.1.toNat) := by
  unfold itemB
  rw [if_pos h4, (textM_some (h.text h4).2).2]; rfl
theorem item_br {x : Nd} (h5 : x.kind = 5) : itemB x = [60, 98, 114, 47, 62] := by
  unfold itemB
  rw [if_neg (by omega), if_pos h5]
theorem item_tag {x : Nd} (h : x.kind ≤ 3) : itemB x = tagB x := by
  unfold itemB
  rw [if_neg (by omega), if_neg (by omega)]
/-- the first signs tell the kind -/
def kindOf2 : List Nat → Int
  | 60 :: 98 :: _ => 5
  | 60 :: 100 :: _ => 1
  | 60 :: 112 :: _ => 2
  | 60 :: 115 :: _ => 3
  | _ => 4
theorem kind_item {x : Nd} (h : Pr x) (X : List Nat) : kindOf2 (itemB x ++ X) = x.kind := by
  obtain ⟨k1, k5⟩ := h.kind
  have hk : x.kind = 1 ∨ x.kind = 2 ∨ x.kind = 3 ∨ x.kind = 4 ∨ x.kind = 5 := by omega
  rcases hk with e | e | e | e | e
  · rw [item_tag (by omega)]; unfold tagB nameB; rw [if_pos e, e]; rfl
  · rw [item_tag (by omega)]; unfold tagB nameB; rw [if_neg (by omega), if_pos e, e]; rfl
  · rw [item_tag (by omega)]; unfold tagB nameB; rw [if_neg (by omega), if_neg (by omega), e]; rfl
  · rw [item_text h e, e]
    obtain ⟨y, l, hy⟩ := List.exists_cons_of_ne_nil (h.text e).1
    rw [hy, List.flatMap_cons, List.append_assoc]
    obtain ⟨b, t, e2, hb⟩ := tx_head (isR_nat ((textM_some (h.text e).2).1 y (by rw [hy]; exact List.mem_cons_self))).2
    rw [e2]
    unfold kindOf2
    split
    all_goals first | rfl | (rename_i q; simp at q; exact absurd q.1 hb)
  · rw [item_br e, e]; rfl
theorem item_ne {x : Nd} (h : Pr x) (X : List Nat) : itemB x ++ X ≠ [] ∧ ∀ Z, itemB x ++ X ≠ 60 :: 47 :: Z := by
  have hk := kind_item h X
  refine ⟨fun e => ?_, fun Z e => ?_⟩
  · have e0 := (List.append_eq_nil_iff.1 e).1
    obtain ⟨k1, k5⟩ := h.kind
    have hk : x.kind = 5 ∨ x.kind ≤ 3 ∨ x.kind = 4 := by omega
    rcases hk with q | q | q
    · rw [item_br q] at e0; cases e0
    · rw [item_tag q] at e0; unfold tagB at e0; simp at e0
    · rw [item_text h q] at e0
      obtain ⟨y, l, hy⟩ := List.exists_cons_of_ne_nil (h.text q).1
      obtain ⟨b, t, e2, -⟩ := tx_head (isR_nat ((textM_some (h.text q).2).1 y (by rw [hy]; exact List.mem_cons_self))).2
      rw [hy, List.flatMap_cons, e2] at e0; cases e0
  · rw [e] at hk
    have h4 : x.kind = 4 := by rw [← hk]; rfl
    rw [item_text h h4] at e
    obtain ⟨y, l, hy⟩ := List.exists_cons_of_ne_nil (h.text h4).1
    obtain ⟨b, t, e2, hb⟩ := tx_head (isR_nat ((textM_some (h.text h4).2).1 y (by rw [hy]; exact List.mem_cons_self))).2
    rw [hy, List.flatMap_cons, e2] at e
    simp at e
    exact hb e.1
theorem nameB_cancel {k : Int} {X Y : List Nat} (h : nameB k ++ X = nameB k ++ Y) : X = Y := List.append_cancel_left h
/-- what is printed of a node, and what stands behind it, tells both -/
theorem item_inj {x y : Nd} (hx : Pr x) (hy : Pr y) {X Y : List Nat} (lx : x.kind = 4 → Lt X) (ly : y.kind = 4 → Lt Y) (hp : x.par = y.par) (h : itemB x ++ X = itemB y ++ Y) : sameN x y = true ∧ X = Y := by
  have hk : x.kind = y.kind := by rw [← kind_item hx X, h, kind_item hy Y]
  have key : (∀ j, j < 7 → hb x (aBit j) = hb y (aBit j) ∧ (hb x (aBit j) = true → aVl x j = aVl y j)) → runesB x.chs y.chs = true → sameN x y = true := fun q hr => by
    obtain ⟨v1, v2, v3, v4, v5, v6, v7⟩ := vals_eq hx.atr hy.atr q
    rw [sameN_chs hk hp (has_eq hx.fit hy.fit hx.atr hy.atr fun j hj => (q j hj).1) v1 v2 v3 v4 v5 v6 v7]
    exact hr
  have none0 : ∀ {z : Nd}, Pr z → (z.kind = 4 ∨ z.kind = 5) → z.has = 0 := fun {z} hz h45 => by
    have h0 : bits .andNot .i64 z.has (may z.kind) = 0 := by
      have := hz.atr
      rw [atr_eq] at this
      simp only [Bool.and_eq_true, beq_iff_eq] at this
      exact this.1.1
    unfold may at h0
    rw [if_neg (by omega), if_neg (by omega), if_neg (by omega)] at h0
    have := has_nat (k := 0) (by decide) (by decide) hz.fit h0
    omega
  have offs : ∀ {z : Nd}, z.has = 0 → ∀ j, j < 7 → hb z (aBit j) = false := fun {z} hz j hj => by
    unfold hb
    rw [hz]
    obtain rfl | rfl | rfl | rfl | rfl | rfl | rfl : j = 0 ∨ j = 1 ∨ j = 2 ∨ j = 3 ∨ j = 4 ∨ j = 5 ∨ j = 6 := by omega
    all_goals decide +kernel
  have nob : (x.kind = 4 ∨ x.kind = 5) → ∀ j, j < 7 → hb x (aBit j) = hb y (aBit j) ∧ (hb x (aBit j) = true → aVl x j = aVl y j) := fun h45 j hj => by
    have e1 := offs (none0 hx h45) j hj
    have e2 := offs (none0 hy (by omega)) j hj
    exact ⟨by rw [e1, e2], fun q => by rw [e1] at q; cases q⟩
  by_cases h4 : x.kind = 4
  · have h4' : y.kind = 4 := by omega
    rw [item_text hx h4, item_text hy h4'] at h
    obtain ⟨e1, e2⟩ := txs_inj (lx h4) (ly h4') _ _ (textM_some (hx.text h4).2).1 (textM_some (hy.text h4').2).1 h
    exact ⟨key (nob (.inl h4)) (by unfold runesB; exact decide_eq_true e1), e2⟩
  have hc : runesB x.chs y.chs = true := by rw [hx.none h4, hy.none (by omega)]; rfl
  by_cases h5 : x.kind = 5
  · rw [item_br h5, item_br (by omega)] at h
    exact ⟨key (nob (.inr h5)) hc, List.append_cancel_left h⟩
  have hk3 : x.kind ≤ 3 := by have := hx.kind; omega
  rw [item_tag hk3, item_tag (by omega)] at h
  unfold tagB at h
  rw [hk] at h
  simp only [List.cons_append, List.append_assoc, List.nil_append] at h
  have h1 := List.append_cancel_left (List.cons.inj h).2
  unfold attsB at h1
  obtain ⟨e1, e2⟩ := atts_inj hx.atr hy.atr (List.range 7) (fun j hj => List.mem_range.1 hj) List.nodup_range h1
  exact ⟨key (fun j hj => e1 j (List.mem_range.2 hj)) hc, e2⟩
end Go.Proofs.YtmlhibcbgdhadaaDoor
