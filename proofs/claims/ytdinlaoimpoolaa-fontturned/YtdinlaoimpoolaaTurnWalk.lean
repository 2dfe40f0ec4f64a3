/- FontTurned's walk. -/
import Derived.Test.YtdinlaoimpoolaaPureRuns
import Derived.Deep.Cut
import Derived.Deep.CutRange
import Derived.Laws.Closers25b
namespace Go.Proofs.Ytdinlaoimpoolaa
open Go.RowKit

/-- these bytes lie from the head of block c on -/
structure Byt (W : World) (c : Nat) (l : List Nat) : Prop where
  lt : c < W.heap.size
  cell : ∀ (j x : Nat), l[j]? = some x → W.cell? ⟨c, j, none⟩ = some (.int .u8 (x : Int))
  froz : ∀ j, j < l.length → W.frozen? ⟨c, j, none⟩ = false
theorem Byt.below {W W' : World} {c : Nat} {l : List Nat} (h : Byt W c l) (k : Below W.heap.size W W') : Byt W' c l :=
  ⟨Nat.lt_of_lt_of_le h.lt k.size, fun j x hj => (k.cell (p := ⟨c, j, none⟩) h.lt).trans (h.cell j x hj), fun j hj => (k.frozen (p := ⟨c, j, none⟩) h.lt).trans (h.froz j hj)⟩
theorem byt_new (w : World) (s : ByteArray) (cap : Nat) (e : TypeId) (m : Nat × Nat) (hm : s.size ≤ m.1) : Byt (w.drew.alloc (.cells (bytesRow s cap) e m)) w.heap.size (bl s) := by
  refine ⟨by simp, fun j x hj => ?_, fun j hj => ?_⟩
  · have hl : j < s.size := by
      have := (List.getElem?_eq_some_iff.1 hj).1
      rwa [bl_length] at this
    have := bl_at s j hl
    rw [hj] at this
    cases this
    have h2 := World.cell?_alloc_mark w.drew (bytesRow s cap) e m j
    refine Eq.trans h2 ?_
    exact bytesRow_at s cap j hl
  · rw [bl_length] at hj
    have h2 := World.frozen?_alloc_mark w.drew (bytesRow s cap) e m.1 m.2 j
    refine Eq.trans h2 ?_
    rw [decide_eq_false (by omega)]
    rfl
theorem Byt.set {W : World} {c : Nat} {l : List Nat} (h : Byt W c l) {i d : Nat} (hi : i < l.length) : Byt (W.setCell ⟨c, i, none⟩ (.int .u8 (d : Int))) c (l.set i d) := by
  refine ⟨by simpa [World.setCell] using h.lt, fun j x hj => ?_, fun j hj => ?_⟩
  · by_cases e : j = i
    · subst e
      rw [List.getElem?_set_self hi] at hj
      cases hj
      exact World.cell?_setCell_same _ _ _ (h.cell j l[j] (List.getElem?_eq_getElem hi))
    · rw [List.getElem?_set_ne (Ne.symm e)] at hj
      rw [World.cell?_setCell_other _ _ _ _ (by intro q; cases q; exact e rfl)]
      exact h.cell j x hj
  · rw [List.length_set] at hj
    rw [World.frozen?_setCell]
    exact h.froz j hj
theorem bytesRow_size (s : ByteArray) (cap : Nat) : s.size ≤ (bytesRow s cap).size := by
  unfold bytesRow
  rw [Array.size_append, Array.size_map]
  exact Nat.le_add_right _ _
theorem bl_append (a b : ByteArray) : bl (a ++ b) = bl a ++ bl b := by simp [bl, ByteArray.data_append]
theorem bl_extract (s : ByteArray) (i j : Nat) : bl (s.extract i j) = ((bl s).drop i).take (j - i) := by
  unfold bl
  rw [ByteArray.data_extract, Array.toList_extract, List.extract_eq_take_drop, List.map_take, List.map_drop]
theorem xor_u8 (a b : Nat) (ha : a < 256) (hb : b < 256) : bits .xor .u8 (a : Int) (b : Int) = ((a ^^^ b : Nat) : Int) := by
  have hx : a ^^^ b < 2 ^ 8 := Nat.xor_lt_two_pow (by omega) (by omega)
  have h1 : (BitVec.ofInt 8 (a : Int)).toNat = a := by
    rw [BitVec.ofInt_natCast, BitVec.toNat_ofNat]; exact Nat.mod_eq_of_lt (by omega)
  have h2 : (BitVec.ofInt 8 (b : Int)).toNat = b := by
    rw [BitVec.ofInt_natCast, BitVec.toNat_ofNat]; exact Nat.mod_eq_of_lt (by omega)
  show IntKind.u8.wrap ((BitVec.ofInt 8 (a : Int) ^^^ BitVec.ofInt 8 (b : Int)).toNat : Int) = _
  rw [BitVec.toNat_xor, h1, h2]
  simp only [IntKind.wrap, IntKind.bits, IntKind.signed]
  simp
  omega
theorem xor_one_ne (a : Nat) : a ^^^ 1 ≠ a := by
  intro h
  have h2 : (a ^^^ 1) ^^^ a = a ^^^ a := by rw [h]
  rw [Nat.xor_self, Nat.xor_comm a 1, Nat.xor_assoc, Nat.xor_self] at h2
  exact absurd h2 (by decide)

set_option maxRecDepth 100000 in
set_option maxHeartbeats 16000000 in
theorem turn_walk (em : Int) (gs : List Gl) (ps : List Pr) (ag ap : Option Addr) (ca cb : Nat) (at0 by0 : Int) (w : World) (hg : gs.length ≤ 9223372036854775807) (hp : ps.length ≤ 9223372036854775807) (ha1 : -9223372036854775808 ≤ at0) (ha2 : at0 ≤ 9223372036854775807) (sg : Sl w ag gs.length (gs.flatMap cg)) (sp : Sl w ap ps.length (ps.flatMap cp)) :
    Calls Try.prog 6 #[.agg #[.int .i64 em, .slice ag gs.length ca, .slice ap ps.length cb], .int .i64 at0, .int .i64 by0] w fun e w' => e = .returned (.bool true) ∧ Below w.heap.size w w' := by
  have HPUT := hid (fun X (h : Below w.heap.size w X) => put_any em gs ps ag ap ca cb X hg hp (sg.below h) (sp.below h))
  have HFB := hid (Blk.new w #[.int .i64 em, .slice ag gs.length ca, .slice ap ps.length cb] 25 rfl)
  have HB0 : Hid (Below w.heap.size w (w.alloc (.cells #[.int .i64 em, .slice ag gs.length ca, .slice ap ps.length cb] 25))) := hid ((Below.refl _ w).alloc (Nat.le_refl _) _)
  have HAT := hid (And.intro ha1 ha2)
  obtain ⟨h, hh⟩ : ∃ h, w.heap.size = h := ⟨_, rfl⟩
  clear sg sp hg hp
  go_enter Try.func6, Try.ntmps6
  go_wp2_with fail
  obtain ⟨W0, hW0⟩ : ∃ W0, w.alloc (.cells #[.int .i64 em, .slice ag gs.length ca, .slice ap ps.length cb] 25) = W0 := ⟨_, rfl⟩
  rw [hW0] at HFB HB0 ⊢
  rw [hh] at HFB
  clear hW0
  refine (shown_any W0).mono ?_
  rintro e w1 ⟨rfl, hb1⟩
  have HB1 := hid (HB0.out.trans (hb1.mono HB0.out.size))
  have HF1 := hid (HFB.out.below hb1)
  clear hb1 HFB HB0
  have c0 : w1.cell? ⟨h, 0, none⟩ = some (.int .i64 em) := HF1.out.cell 0
  have c1 : w1.cell? ⟨h, 1, none⟩ = some (.slice ag gs.length ca) := HF1.out.cell 1
  have c2 : w1.cell? ⟨h, 2, none⟩ = some (.slice ap ps.length cb) := HF1.out.cell 2
  go_wp2_with fail
  refine (HPUT.out w1 HB1.out).mono ?_
  rintro e w2 ⟨he, hb2⟩
  have HB2 := hid (HB1.out.trans (hb2.mono HB1.out.size))
  clear hb2 HF1 HB1 c0 c1 c2
  by_cases hv : verd em gs ps = 0
  · rw [if_pos hv, hv] at he
    subst he
    have HV := hid hv
    have HS := hid (fontB_size em gs ps hv)
    obtain ⟨S, hS⟩ : ∃ S, strN (fontB em gs ps) = S := ⟨_, rfl⟩
    have HBL : Hid (bl S = fontB em gs ps) := hid (by rw [← hS]; exact bl_strN (fontB em gs ps) (fontB_lt em gs ps))
    rw [hS] at HS ⊢
    have HSZ : Hid (S.size = (fontB em gs ps).length) := hid (by rw [← bl_length, HBL.out])
    have HS13 : Hid (13 ≤ S.size) := hid (by
      rw [HSZ.out]
      unfold fontB body
      simp only [List.length_append, be_len, PF, List.length_cons, List.length_nil]; omega)
    obtain ⟨n, hn⟩ : ∃ n, S.size = n := ⟨_, rfl⟩
    have HN := hid hn
    have hn1 : (n : Int) ≤ 60000 := by have := HS.out; omega
    have hn0 : ¬ (n : Int) = 0 := by have := HS13.out; omega
    have hn13 : 13 ≤ n := by have := HS13.out; omega
    -- the place
    obtain ⟨A, hA⟩ : ∃ A : Nat, (if at0 < 0 then -(at0 + 1) else at0).tmod (n : Int) = (A : Int) ∧ A < n := by
      have h0 : 0 ≤ (if at0 < 0 then -(at0 + 1) else at0) := by split <;> omega
      refine ⟨((if at0 < 0 then -(at0 + 1) else at0).tmod (n : Int)).toNat, ?_, ?_⟩
      · rw [Int.toNat_of_nonneg (Int.tmod_nonneg _ h0)]
      · have h1 := Int.tmod_lt_of_pos (if at0 < 0 then -(at0 + 1) else at0) (show (0 : Int) < n by omega)
        have h2 := Int.tmod_nonneg (n : Int) h0
        omega
    have HA := hid hA
    clear hv hS hA
    obtain ⟨X0, hX0⟩ : ∃ X0, (if at0 < 0 then -(at0 + 1) else at0) = X0 := ⟨_, rfl⟩
    rw [hX0] at HA
    have HX0 := hid hX0
    clear hX0
    go_upto_if 36 with fail
    go_cut [1] from 32 to 39 (fun v wx => v = .int .i64 X0 ∧ wx = w2)
    case first =>
      by_cases hlt : at0 < 0
      · have HL := hid hlt
        go_wp2_with fail
        go_meet
        exact ⟨by rw [← HX0.out, if_pos HL.out], rfl⟩
      · have HL := hid hlt
        go_wp2_with fail
        go_meet
        exact ⟨by rw [← HX0.out, if_neg (by have := HL.out; omega)], rfl⟩
    case rest =>
    obtain ⟨rfl, hwc⟩ := hcut
    rw [hwc]
    clear hwc
    have h2 := HA.out.1
    have hcv := run_bytes_of_string (P := Try.prog) w2 9 56 5 S Try.underlying9 Try.underlying56 Try.underlying5
    have hA1 : (A : Int) < (n : Int) := by have := HA.out.2; omega
    have hA0 : (0 : Int) ≤ (A : Int) := by omega
    rw [hn] at hcv
    obtain ⟨cap, hcap⟩ : ∃ cap, grownCap w2 n 0 5 = cap := ⟨_, rfl⟩
    have HCP : Hid (n ≤ cap) := hid (by rw [← hcap]; exact grownCap_ge _ _ _ _)
    have HCP : Hid (n ≤ cap) := hid (by rw [← hcap]; exact grownCap_ge _ _ _ _)
    have HCP : Hid (n ≤ cap) := hid (by rw [← hcap]; exact grownCap_ge _ _ _ _)
    rw [hcap] at hcv
    obtain ⟨CR, hCR⟩ : ∃ CR, bytesRow S cap = CR := ⟨_, rfl⟩
    have hcs : n ≤ CR.size := by rw [← hCR, ← hn]; exact bytesRow_size _ _
    have HY := hid (byt_new w2 S cap 5 (CR.size, CR.size + 1) (by rw [hn]; exact hcs))
    rw [hCR] at hcv HY
    rw [HBL.out] at HY
    obtain ⟨MK, hMK⟩ : ∃ MK, (CR.size, CR.size + 1) = MK := ⟨_, rfl⟩
    rw [hMK] at hcv HY
    obtain ⟨c, hc⟩ : ∃ c, w2.heap.size = c := ⟨_, rfl⟩
    have HCL : Hid (w.heap.size ≤ c) := hid (by have := HB2.out.size; omega)
    have HB3 : Hid (Below w.heap.size w (w2.alloc (.cells CR 5 MK))) := hid (HB2.out.alloc HB2.out.size _)
    have HY3 : Hid (Byt (w2.alloc (.cells CR 5 MK)) c (fontB em gs ps)) := hid (by
      have := HY.out
      rw [hc] at this
      exact ⟨this.lt, this.cell, this.froz⟩)
    obtain ⟨x, hx⟩ := some_at (xs := fontB em gs ps) (i := A) (by have := HSZ.out; have := HA.out.2; omega)
    have HX := hid hx
    have hx256 : x < 256 := fontB_lt em gs ps x (List.mem_of_getElem? hx)
    have k1 : (w2.alloc (.cells CR 5 MK)).cell? ⟨c, A, none⟩ = some (.int .u8 (x : Int)) := HY3.out.cell A x hx
    have k2 : (w2.alloc (.cells CR 5 MK)).frozen? ⟨c, A, none⟩ = false := HY3.out.froz A (by have := HSZ.out; have := HA.out.2; omega)
    have hsx : ∀ (hh : A < S.size), ((S[A]'hh).toNat : Int) = (x : Int) := fun hh => by
      have := bl_at S A hh
      rw [HBL.out, hx] at this
      cases this; rfl
    obtain ⟨bw, hbw⟩ : ∃ bw : Nat, IntKind.u8.wrap by0 = (bw : Int) ∧ bw < 256 := by
      have h0 : 0 ≤ IntKind.u8.wrap by0 ∧ IntKind.u8.wrap by0 < 256 := by
        simp only [IntKind.wrap, IntKind.bits, IntKind.signed]
        simp
        omega
      exact ⟨(IntKind.u8.wrap by0).toNat, by omega, by omega⟩
    have hxor := xor_u8 x bw hx256 hbw.2
    have hbw1 := hbw.1
    have hxor1 := xor_u8 x 1 hx256 (by decide)
    have HX256 := hid hx256
    have HBW := hid hbw.2
    clear hx hcap hCR hcs hMK HY hx256 hbw
    have HCS := hid hsx
    clear hsx
    go_wp2_with fail
    have HY4 : Hid (Byt (((w2.alloc (.cells CR 5 MK)).setCell ⟨c, A, none⟩ (.int .u8 ((x ^^^ bw : Nat) : Int))).drew) c ((fontB em gs ps).set A (x ^^^ bw))) := hid (by
      have := HY3.out.set (i := A) (d := x ^^^ bw) (by have := HSZ.out; have := HA.out.2; omega)
      exact ⟨this.lt, this.cell, this.froz⟩)
    have HB4 : Hid (Below w.heap.size w (((w2.alloc (.cells CR 5 MK)).setCell ⟨c, A, none⟩ (.int .u8 ((x ^^^ bw : Nat) : Int))).drew)) := hid (HB3.out.setCell (p := ⟨c, A, none⟩) HCL.out _).drew
    obtain ⟨W4, hW4⟩ : ∃ W4, ((w2.alloc (.cells CR 5 MK)).setCell ⟨c, A, none⟩ (.int .u8 ((x ^^^ bw : Nat) : Int))).drew = W4 := ⟨_, rfl⟩
    rw [hW4] at HY4 HB4 ⊢
    obtain ⟨y, hy⟩ : ∃ y, x ^^^ bw = y := ⟨_, rfl⟩
    rw [hy] at HY4 ⊢
    clear hW4 k1 k2 hcv hc hxor hbw1 h2
    have hltS : A < S.size := by rw [hn]; exact HA.out.2
    have hsx : (S[A]'hltS).toNat = x := by have := HCS.out hltS; omega
    have hy256 : y < 256 := by rw [← hy]; exact Nat.xor_lt_two_pow (n := 8) (by have := HX256.out; omega) (by have := HBW.out; omega)
    have hLA : A < (fontB em gs ps).length := by have := HSZ.out; have := HA.out.2; omega
    have k1 : W4.cell? ⟨c, A, none⟩ = some (.int .u8 (y : Int)) := HY4.out.cell A y (by rw [List.getElem?_set_self hLA])
    have k2 : W4.frozen? ⟨c, A, none⟩ = false := HY4.out.froz A (by rw [List.length_set]; exact hLA)
    have HLA := hid hLA
    have HY256 := hid hy256
    clear hy hLA hy256
    go_region
    go_upto_if 63 with fail
    go_cut [] from 56 to 71 (fun wx => ∃ d, Byt wx c ((fontB em gs ps).set A d) ∧ d ≠ x ∧ d < 256 ∧ Below w.heap.size w wx)
    case first =>
      have hk1 : W4.drew.cell? ⟨c, A, none⟩ = some (.int .u8 (y : Int)) := k1
      by_cases hyx : y = x
      · subst hyx
        have he : ((y : Int) == (y : Int)) = true := beq_self_eq_true _
        go_wp2_with fail
        go_meet
        have e : bits .xor .u8 (y : Int) 1 = ((y ^^^ 1 : Nat) : Int) := xor_u8 y 1 HY256.out (by decide)
        rw [e]
        have hs := HY4.out.set (i := A) (d := y ^^^ 1) (by rw [List.length_set]; exact HLA.out)
        rw [List.set_set] at hs
        exact ⟨y ^^^ 1, ⟨hs.lt, hs.cell, hs.froz⟩, xor_one_ne y, Nat.xor_lt_two_pow (n := 8) (by have := HY256.out; omega) (by decide), (HB4.out.setCell (p := ⟨c, A, none⟩) HCL.out _).drew⟩
      · have hne : ((y : Int) == (x : Int)) = false := by simp; omega
        have HNE := hid hyx
        clear hyx
        go_wp2_with fail
        go_meet
        exact ⟨y, ⟨HY4.out.lt, HY4.out.cell, HY4.out.froz⟩, HNE.out, HY256.out, HB4.out.drew⟩
    case rest =>
    obtain ⟨d, hd1, hd2, hd3, hd4⟩ := hcut
    obtain ⟨W5, hW5⟩ : ∃ W5, wc = W5 := ⟨_, rfl⟩
    rw [hW5] at hd1 hd4 ⊢
    clear hW5 k1 k2 hsx hltS
    have HY5 := hid hd1
    have HD := hid (And.intro hd2 hd3)
    have HB5 := hid hd4
    clear hd1 hd2 hd3 hd4 HY4 HB4 HY3 HB3
    -- what Get tells of the three
    have hsplit : fontB em gs ps = (fontB em gs ps).take A ++ x :: (fontB em gs ps).drop (A + 1) := by
      have h1 := List.take_append_drop A (fontB em gs ps)
      rw [drop_at HX.out] at h1
      exact h1.symm
    have hset : (fontB em gs ps).set A d = (fontB em gs ps).take A ++ d :: (fontB em gs ps).drop (A + 1) := by
      rw [List.set_eq_take_append_cons_drop, if_pos HLA.out]
    have hlen : ((fontB em gs ps).take A).length = A := by rw [List.length_take]; have := HLA.out; omega
    obtain ⟨e1, j1, ht1, ht2, ht3⟩ := fin_turned HV.out hsplit HD.out.2 (Ne.symm HD.out.1)
    rw [← hset] at ht1
    rw [hlen] at ht3
    have ht4 := fin_cut HV.out hsplit
    rw [hlen] at ht4
    have ht5 := fin_more HV.out d
    have h256 : ∀ b ∈ (fontB em gs ps).set A d, b < 256 := by
      intro b hb
      rcases List.mem_or_eq_of_mem_set hb with q | q
      · exact fontB_lt em gs ps b q
      · rw [q]; exact HD.out.2
    have HT1 : Hid (fin (bl (strN ((fontB em gs ps).set A d))) = .inl (e1, j1)) := hid (by rw [bl_strN _ h256]; exact ht1)
    have HT2 : Hid (fin (bl (S.extract 0 A)) = .inl (60, A)) := hid (by rw [bl_extract, List.drop_zero, Nat.sub_zero, HBL.out]; exact ht4)
    have HT3 : Hid (fin (bl (S ++ strN [d])) = .inl (60, n)) := hid (by
      rw [bl_append, HBL.out, bl_strN [d] (by intro b hb; simp at hb; rw [hb]; exact HD.out.2), ht5, ← HSZ.out, HN.out])
    have HE1 := hid (And.intro ht2 ht3)
    clear ht1 ht2 ht3 ht4 ht5 h256 hset hsplit hlen
    have HL5 : Hid (((fontB em gs ps).set A d).length = n) := hid (by rw [List.length_set, ← HSZ.out, HN.out])
    have HCV : Hid (∀ X, Byt X c ((fontB em gs ps).set A d) → (convert 56 9 (.slice (some ⟨c, 0, none⟩) n cap)).run Try.prog X = .ok (.string (strN ((fontB em gs ps).set A d))) X) := hid fun X hX => by
      have := run_convert_bytes_back (P := Try.prog) X 56 9 5 ⟨c, 0, none⟩ cap (((fontB em gs ps).set A d).map UInt8.ofNat) Try.underlying56 Try.underlying5 Try.underlying9 (fun j hj => by
        rw [Addr.add_lit, Nat.zero_add]
        have hj' : j < ((fontB em gs ps).set A d).length := by simpa using hj
        refine (hX.cell j _ (List.getElem?_eq_getElem hj')).trans ?_
        have hb : ((fontB em gs ps).set A d)[j] < 256 := by
          rcases List.mem_or_eq_of_mem_set (List.getElem_mem hj') with q | q
          · exact fontB_lt em gs ps _ q
          · rw [q]; exact HD.out.2
        rw [List.getElem_map, UInt8.toNat_ofNat']
        congr 2
        omega)
      rw [List.length_map, HL5.out] at this
      exact this
    obtain ⟨B1, hB1⟩ : ∃ B1, strN ((fontB em gs ps).set A d) = B1 := ⟨_, rfl⟩
    rw [hB1] at HT1 HCV
    have HB1s : Hid (B1.size ≤ 60000) := hid (by
      rw [← hB1]
      have : (strN ((fontB em gs ps).set A d)).size = ((fontB em gs ps).set A d).length := by simp [strN, ByteArray.size]
      rw [this, HL5.out]
      omega)
    have HCX : Hid (∀ X, Below W5.heap.size W5 X → (convert 56 9 (.slice (some ⟨c, 0, none⟩) n cap)).run Try.prog X = .ok (.string B1) X) := hid fun X hX => HCV.out X (HY5.out.below hX)
    clear hB1
    have hS0 := HCX.out W5 (Below.refl _ _)
    go_wp2_with fail
    go_cut [11, 12] from 72 to 78 (fun p q wx => ∃ bf, q = .pointer (some ⟨bf, 0, none⟩) ∧ Blk wx bf [.int .i64 e1, .int .i64 j1] 44 ∧ Below W5.heap.size W5 wx)
    case first =>
      refine two_rows (R := ⟨_, _, 0, 3, 7, 8, 9, 10, fun i => ([none, some (.slice (some ⟨c, 0, none⟩) n cap), some (.string B1), some (.tuple #[.agg #[.int .i64 0, .slice none 0 0, .slice none 0 0], .agg #[.int .i64 e1, .int .i64 j1]]), some (.tuple #[.agg #[.int .i64 0, .slice none 0 0, .slice none 0 0], .agg #[.int .i64 e1, .int .i64 j1]]), some (.agg #[.int .i64 0, .slice none 0 0, .slice none 0 0]), some (.agg #[.int .i64 e1, .int .i64 j1]), none, none, none, none] : List (Option Value)).getD i none, W5, (e1, j1)⟩) B1
        (by unfold Roles.ok; dsimp only; decide) (by kernel_rfl) (by kernel_rfl) (by kernel_rfl) HT1.out (by have := HB1s.out; omega) _ _ _ _ _ _ _ _ _ 2 5 6 73 76 75 11 12 77 78 rfl rfl rfl rfl rfl rfl rfl rfl rfl
        ⟨rfl, rfl, rfl⟩ ⟨rfl, rfl, rfl⟩ ⟨rfl, rfl, rfl⟩ ⟨rfl, rfl, rfl⟩ ⟨rfl, rfl, rfl⟩ ⟨rfl, rfl, rfl⟩ rfl rfl rfl rfl rfl rfl rfl rfl rfl rfl rfl rfl
        ⟨by kernel_rfl, by kernel_rfl⟩ ⟨by kernel_rfl, by kernel_rfl, by kernel_rfl⟩ ⟨by kernel_rfl, by kernel_rfl, by kernel_rfl⟩ ?hp [11, 12, 72, 73, 74, 75, 76, 77, 78] (by kernel_rfl) ?he
      case hp =>
        intro i o ho
        rcases i with _ | _ | _ | _ | _ | _ | _ | _ | _ | _ | _ | i
        · exact .inl rfl
        · cases ho
          refine .inr (.inr (.inr (.inr (.inr (.inr ⟨rfl, _, rfl, fun a X hX hr hh => ?_⟩)))))
          exact run_move rfl (eval_tmp (hr.2.2 10 (by kernel_rfl)))
        · cases ho
          refine .inr (.inr (.inr (.inr (.inr (.inr ⟨rfl, _, rfl, fun a X hX hr hh => ?_⟩)))))
          exact run_conv rfl ((hh 1 _ (by kernel_rfl) rfl).only rfl rfl) (HCX.out X hX)
        · exact .inr (.inl rfl)
        · cases ho
          refine .inr (.inr (.inr (.inr (.inr (.inr ⟨rfl, _, rfl, fun a X hX hr hh => ?_⟩)))))
          exact run_move rfl ((hh 3 _ (by kernel_rfl) rfl).only rfl rfl)
        · cases ho
          refine .inr (.inr (.inr (.inr (.inr (.inr ⟨rfl, _, rfl, fun a X hX hr hh => ?_⟩)))))
          exact run_extract rfl ((hh 4 _ (by kernel_rfl) rfl).only rfl rfl) rfl
        · cases ho
          refine .inr (.inr (.inr (.inr (.inr (.inr ⟨rfl, _, rfl, fun a X hX hr hh => ?_⟩)))))
          exact run_extract rfl ((hh 4 _ (by kernel_rfl) rfl).only rfl rfl) rfl
        · exact .inr (.inr (.inl rfl))
        · exact .inr (.inr (.inr (.inl rfl)))
        · exact .inr (.inr (.inr (.inr (.inl rfl))))
        · exact .inr (.inr (.inr (.inr (.inr (.inl rfl)))))
        · cases ho
      case he =>
        intro us wx b hb hu hk
        dsimp only at hb hu hk
        have hu' : ∃ bf, us 12 = .pointer (some ⟨bf, 0, none⟩) ∧ Blk wx bf [.int .i64 e1, .int .i64 j1] 44 ∧ Below W5.heap.size W5 wx := ⟨b, hu, hk, hb⟩
        clear hb hu hk
        dsimp only
        simp only [List.foldl_cons, List.foldl_nil, List.setIfInBounds_toArray, List.set_cons_succ, List.set_cons_zero]
        generalize us 11 = u11 at *; generalize us 12 = u12 at *; generalize us 72 = u72 at *; generalize us 73 = u73 at *; generalize us 74 = u74 at *; generalize us 75 = u75 at *; generalize us 76 = u76 at *; generalize us 77 = u77 at *; generalize us 78 = u78 at *
        go_wp2_with fail
        go_meet
        exact hu'
    case rest =>
    obtain ⟨f1, rfl, hk1, hb1⟩ := hcut
    obtain ⟨W6, hW6⟩ : ∃ W6, wc = W6 := ⟨_, rfl⟩
    rw [hW6] at hk1 hb1 ⊢
    clear hW6 hS0
    have HK1 := hid hk1
    have HBA := hid hb1
    clear hk1 hb1
    have HAS : Hid (A ≤ S.size) := hid (by rw [HN.out]; exact Nat.le_of_lt HA.out.2)
    have HC2 : Hid ((S.extract 0 A).size ≤ 60000) := hid (by rw [ByteArray.size_extract]; have := HS.out; omega)
    have HN60 : Hid ((n : Int) ≤ 60000) := hid hn1
    go_wp2_with fail
    go_cut [13, 14] from 79 to 86 (fun p q wx => ∃ bf, q = .pointer (some ⟨bf, 0, none⟩) ∧ Blk wx bf [.int .i64 60, .int .i64 A] 44 ∧ Below W6.heap.size W6 wx)
    case first =>
      refine two_rows (R := ⟨_, _, 0, 4, 8, 9, 10, 11, fun i => ([none, some (.string S), some (.int .i64 (A : Int)), some (.string (S.extract 0 A)), some (.tuple #[.agg #[.int .i64 0, .slice none 0 0, .slice none 0 0], .agg #[.int .i64 60, .int .i64 A]]), some (.tuple #[.agg #[.int .i64 0, .slice none 0 0, .slice none 0 0], .agg #[.int .i64 60, .int .i64 A]]), some (.agg #[.int .i64 0, .slice none 0 0, .slice none 0 0]), some (.agg #[.int .i64 60, .int .i64 A]), none, none, none, none] : List (Option Value)).getD i none, W6, (60, A)⟩) (S.extract 0 A)
        (by unfold Roles.ok; dsimp only; decide) (by kernel_rfl) (by kernel_rfl) (by kernel_rfl) HT2.out (by have := HC2.out; omega) _ _ _ _ _ _ _ _ _ 3 6 7 80 84 83 13 14 85 86 rfl rfl rfl rfl rfl rfl rfl rfl rfl
        ⟨rfl, rfl, rfl⟩ ⟨rfl, rfl, rfl⟩ ⟨rfl, rfl, rfl⟩ ⟨rfl, rfl, rfl⟩ ⟨rfl, rfl, rfl⟩ ⟨rfl, rfl, rfl⟩ rfl rfl rfl rfl rfl rfl rfl rfl rfl rfl rfl rfl
        ⟨by kernel_rfl, by kernel_rfl⟩ ⟨by kernel_rfl, by kernel_rfl, by kernel_rfl⟩ ⟨by kernel_rfl, by kernel_rfl, by kernel_rfl⟩ ?hp [13, 14, 79, 80, 81, 82, 83, 84, 85, 86] (by kernel_rfl) ?he
      case hp =>
        intro i o ho
        rcases i with _ | _ | _ | _ | _ | _ | _ | _ | _ | _ | _ | _ | i
        · exact .inl rfl
        · cases ho
          refine .inr (.inr (.inr (.inr (.inr (.inr ⟨rfl, _, rfl, fun a X hX hr hh => ?_⟩)))))
          exact run_move rfl (eval_tmp (hr.2.2 8 (by kernel_rfl)))
        · cases ho
          refine .inr (.inr (.inr (.inr (.inr (.inr ⟨rfl, _, rfl, fun a X hX hr hh => ?_⟩)))))
          exact run_move rfl (eval_tmp (hr.2.2 1 (by kernel_rfl)))
        · cases ho
          refine .inr (.inr (.inr (.inr (.inr (.inr ⟨rfl, _, rfl, fun a X hX hr hh => ?_⟩)))))
          exact run_cut rfl ((hh 1 _ (by kernel_rfl) rfl).only rfl rfl) ((hh 2 _ (by kernel_rfl) rfl).only rfl rfl) HAS.out
        · exact .inr (.inl rfl)
        · cases ho
          refine .inr (.inr (.inr (.inr (.inr (.inr ⟨rfl, _, rfl, fun a X hX hr hh => ?_⟩)))))
          exact run_move rfl ((hh 4 _ (by kernel_rfl) rfl).only rfl rfl)
        · cases ho
          refine .inr (.inr (.inr (.inr (.inr (.inr ⟨rfl, _, rfl, fun a X hX hr hh => ?_⟩)))))
          exact run_extract rfl ((hh 5 _ (by kernel_rfl) rfl).only rfl rfl) rfl
        · cases ho
          refine .inr (.inr (.inr (.inr (.inr (.inr ⟨rfl, _, rfl, fun a X hX hr hh => ?_⟩)))))
          exact run_extract rfl ((hh 5 _ (by kernel_rfl) rfl).only rfl rfl) rfl
        · exact .inr (.inr (.inl rfl))
        · exact .inr (.inr (.inr (.inl rfl)))
        · exact .inr (.inr (.inr (.inr (.inl rfl))))
        · exact .inr (.inr (.inr (.inr (.inr (.inl rfl)))))
        · cases ho
      case he =>
        intro us wx b hb hu hk
        dsimp only at hb hu hk
        have hu' : ∃ bf, us 14 = .pointer (some ⟨bf, 0, none⟩) ∧ Blk wx bf [.int .i64 60, .int .i64 A] 44 ∧ Below W6.heap.size W6 wx := ⟨b, hu, hk, hb⟩
        clear hb hu hk
        dsimp only
        simp only [List.foldl_cons, List.foldl_nil, List.setIfInBounds_toArray, List.set_cons_succ, List.set_cons_zero]
        generalize us 13 = u13 at *; generalize us 14 = u14 at *; generalize us 79 = u79 at *; generalize us 80 = u80 at *; generalize us 81 = u81 at *; generalize us 82 = u82 at *; generalize us 83 = u83 at *; generalize us 84 = u84 at *; generalize us 85 = u85 at *; generalize us 86 = u86 at *
        go_wp2_with fail
        go_meet
        exact hu'
    case rest =>
    obtain ⟨f2, rfl, hk2, hb2⟩ := hcut
    obtain ⟨W7, hW7⟩ : ∃ W7, wc = W7 := ⟨_, rfl⟩
    rw [hW7] at hk2 hb2 ⊢
    clear hW7
    have HK2 := hid hk2
    have HBB := hid hb2
    have HK1b := hid (HK1.out.below hb2)
    clear hk2 hb2
    have HBC := hid (bel_then HBA.out HBB.out)
    have HCD : Hid (∀ X, Below W7.heap.size W7 X → (convert 56 9 (.slice (some ⟨c, A, none⟩) 1 (cap - A))).run Try.prog X = .ok (.string (strN [d])) X) := hid fun X hX => by
      have hX' := HY5.out.below (bel_then HBC.out hX)
      refine run_convert_bytes_back (P := Try.prog) X 56 9 5 ⟨c, A, none⟩ (cap - A) [UInt8.ofNat d] Try.underlying56 Try.underlying5 Try.underlying9 (fun j hj => ?_)
      have hj0 : j = 0 := by simpa using hj
      subst hj0
      rw [Addr.add_lit, Nat.add_zero]
      refine (hX'.cell A d (by rw [List.getElem?_set_self HLA.out])).trans ?_
      have := HD.out.2
      simp only [List.getElem_cons_zero, UInt8.toNat_ofNat']
      congr 2
      omega
    have hjs : (S ++ strN [d]).size = n + 1 := by
      rw [ByteArray.size_append, HN.out]
      rfl
    have HC3 : Hid ((S ++ strN [d]).size ≤ 60001) := hid (by rw [hjs]; have := HN60.out; omega)
    have HJS : Hid (S.size + (strN [d]).size ≤ 9223372036854775807) := hid (by rw [← ByteArray.size_append, hjs]; have := HN60.out; omega)
    clear hjs
    go_wp2_with fail
    go_cut [15, 16] from 87 to 99 (fun p q wx => ∃ bf, q = .pointer (some ⟨bf, 0, none⟩) ∧ Blk wx bf [.int .i64 60, .int .i64 n] 44 ∧ Below W7.heap.size W7 wx)
    case first =>
      refine two_rows (R := ⟨_, _, 0, 9, 13, 14, 15, 16, fun i => ([none, some (.string S), some (.slice (some ⟨c, 0, none⟩) n cap), some (.int .i64 (A : Int)), some (.int .i64 (A : Int)), some (.int .i64 ((A : Int) + 1)), some (.slice (some ⟨c, A, none⟩) 1 (cap - A)), some (.string (strN [d])), some (.string (S ++ strN [d])), some (.tuple #[.agg #[.int .i64 0, .slice none 0 0, .slice none 0 0], .agg #[.int .i64 60, .int .i64 n]]), some (.tuple #[.agg #[.int .i64 0, .slice none 0 0, .slice none 0 0], .agg #[.int .i64 60, .int .i64 n]]), some (.agg #[.int .i64 0, .slice none 0 0, .slice none 0 0]), some (.agg #[.int .i64 60, .int .i64 n]), none, none, none, none] : List (Option Value)).getD i none, W7, (60, n)⟩) (S ++ strN [d])
        (by unfold Roles.ok; dsimp only; decide) (by kernel_rfl) (by kernel_rfl) (by kernel_rfl) HT3.out (by have := HC3.out; omega) _ _ _ _ _ _ _ _ _ 8 11 12 88 97 96 15 16 98 99 rfl rfl rfl rfl rfl rfl rfl rfl rfl
        ⟨rfl, rfl, rfl⟩ ⟨rfl, rfl, rfl⟩ ⟨rfl, rfl, rfl⟩ ⟨rfl, rfl, rfl⟩ ⟨rfl, rfl, rfl⟩ ⟨rfl, rfl, rfl⟩ rfl rfl rfl rfl rfl rfl rfl rfl rfl rfl rfl rfl
        ⟨by kernel_rfl, by kernel_rfl⟩ ⟨by kernel_rfl, by kernel_rfl, by kernel_rfl⟩ ⟨by kernel_rfl, by kernel_rfl, by kernel_rfl⟩ ?hp [15, 16, 87, 88, 89, 90, 91, 92, 93, 94, 95, 96, 97, 98, 99] (by kernel_rfl) ?he
      case hp =>
        intro i o ho
        rcases i with _ | _ | _ | _ | _ | _ | _ | _ | _ | _ | _ | _ | _ | _ | _ | _ | _ | i
        · exact .inl rfl
        · cases ho
          refine .inr (.inr (.inr (.inr (.inr (.inr ⟨rfl, _, rfl, fun a X hX hr hh => ?_⟩)))))
          exact run_move rfl (eval_tmp (hr.2.2 8 (by kernel_rfl)))
        · cases ho
          refine .inr (.inr (.inr (.inr (.inr (.inr ⟨rfl, _, rfl, fun a X hX hr hh => ?_⟩)))))
          exact run_move rfl (eval_tmp (hr.2.2 10 (by kernel_rfl)))
        · cases ho
          refine .inr (.inr (.inr (.inr (.inr (.inr ⟨rfl, _, rfl, fun a X hX hr hh => ?_⟩)))))
          exact run_move rfl (eval_tmp (hr.2.2 1 (by kernel_rfl)))
        · cases ho
          refine .inr (.inr (.inr (.inr (.inr (.inr ⟨rfl, _, rfl, fun a X hX hr hh => ?_⟩)))))
          exact run_move rfl (eval_tmp (hr.2.2 1 (by kernel_rfl)))
        · cases ho
          refine .inr (.inr (.inr (.inr (.inr (.inr ⟨rfl, _, rfl, fun a X hX hr hh => ?_⟩)))))
          exact run_inc rfl ((hh 4 _ (by kernel_rfl) rfl).only rfl rfl) (by have := HA.out.2; have := HN60.out; omega)
        · cases ho
          refine .inr (.inr (.inr (.inr (.inr (.inr ⟨rfl, _, rfl, fun a X hX hr hh => ?_⟩)))))
          exact run_byte rfl ((hh 2 _ (by kernel_rfl) rfl).only rfl rfl) ((hh 3 _ (by kernel_rfl) rfl).only rfl rfl) ((hh 5 _ (by kernel_rfl) rfl).only rfl rfl) HA.out.2 HCP.out
        · cases ho
          refine .inr (.inr (.inr (.inr (.inr (.inr ⟨rfl, _, rfl, fun a X hX hr hh => ?_⟩)))))
          exact run_conv rfl ((hh 6 _ (by kernel_rfl) rfl).only rfl rfl) (HCD.out X hX)
        · cases ho
          refine .inr (.inr (.inr (.inr (.inr (.inr ⟨rfl, _, rfl, fun a X hX hr hh => ?_⟩)))))
          exact run_join rfl ((hh 1 _ (by kernel_rfl) rfl).only rfl rfl) ((hh 7 _ (by kernel_rfl) rfl).only rfl rfl) HJS.out
        · exact .inr (.inl rfl)
        · cases ho
          refine .inr (.inr (.inr (.inr (.inr (.inr ⟨rfl, _, rfl, fun a X hX hr hh => ?_⟩)))))
          exact run_move rfl ((hh 9 _ (by kernel_rfl) rfl).only rfl rfl)
        · cases ho
          refine .inr (.inr (.inr (.inr (.inr (.inr ⟨rfl, _, rfl, fun a X hX hr hh => ?_⟩)))))
          exact run_extract rfl ((hh 10 _ (by kernel_rfl) rfl).only rfl rfl) rfl
        · cases ho
          refine .inr (.inr (.inr (.inr (.inr (.inr ⟨rfl, _, rfl, fun a X hX hr hh => ?_⟩)))))
          exact run_extract rfl ((hh 10 _ (by kernel_rfl) rfl).only rfl rfl) rfl
        · exact .inr (.inr (.inl rfl))
        · exact .inr (.inr (.inr (.inl rfl)))
        · exact .inr (.inr (.inr (.inr (.inl rfl))))
        · exact .inr (.inr (.inr (.inr (.inr (.inl rfl)))))
        · cases ho
      case he =>
        intro us wx b hb hu hk
        dsimp only at hb hu hk
        have hu' : ∃ bf, us 16 = .pointer (some ⟨bf, 0, none⟩) ∧ Blk wx bf [.int .i64 60, .int .i64 n] 44 ∧ Below W7.heap.size W7 wx := ⟨b, hu, hk, hb⟩
        clear hb hu hk
        dsimp only
        simp only [List.foldl_cons, List.foldl_nil, List.setIfInBounds_toArray, List.set_cons_succ, List.set_cons_zero]
        generalize us 15 = u15 at *; generalize us 16 = u16 at *; generalize us 87 = u87 at *; generalize us 88 = u88 at *; generalize us 89 = u89 at *; generalize us 90 = u90 at *; generalize us 91 = u91 at *; generalize us 92 = u92 at *; generalize us 93 = u93 at *; generalize us 94 = u94 at *; generalize us 95 = u95 at *; generalize us 96 = u96 at *; generalize us 97 = u97 at *; generalize us 98 = u98 at *; generalize us 99 = u99 at *
        go_wp2_with fail
        go_meet
        exact hu'
    case rest =>
    obtain ⟨f3, rfl, hk3, hb3⟩ := hcut
    have HBD := hid (bel_then HBC.out hb3)
    have HBE := hid (HB5.out.trans (HBD.out.mono HB5.out.size))
    have g1 := HK1b.out.below hb3
    have g2 := HK2.out.below hb3
    have a0 : wc.cell? ⟨f1, 0, none⟩ = some (.int .i64 e1) := g1.cell 0
    have a1 : wc.cell? ⟨f1, 1, none⟩ = some (.int .i64 (j1 : Int)) := g1.cell 1
    have b0 : wc.cell? ⟨f2, 0, none⟩ = some (.int .i64 60) := g2.cell 0
    have b1 : wc.cell? ⟨f2, 1, none⟩ = some (.int .i64 (A : Int)) := g2.cell 1
    have d0 : wc.cell? ⟨f3, 0, none⟩ = some (.int .i64 60) := hk3.cell 0
    have d1 : wc.cell? ⟨f3, 1, none⟩ = some (.int .i64 (n : Int)) := hk3.cell 1
    have hn2 : ((e1 : Int) != 0) = true := by have := HE1.out.1; simpa using this
    have hn3 : A ≤ j1 := HE1.out.2
    have hq1 := eqlF 60 A 60 A
    have hq2 := eqlF 60 n 60 n
    simp only [BEq.rfl, Bool.and_self] at hq1 hq2
    clear hk3 hb3 g1 g2
    go_wp2_with fail

    go_ret
    exact ⟨rfl, HBE.out⟩
  · have HV := hid hv
    have hv2 : ((verd em gs ps) != 0) = true := by simpa using hv
    rw [if_neg hv] at he
    subst he
    clear hv
    go_wp2_with fail
    go_ret
    exact ⟨rfl, HB2.out⟩
end Go.Proofs.Ytdinlaoimpoolaa
