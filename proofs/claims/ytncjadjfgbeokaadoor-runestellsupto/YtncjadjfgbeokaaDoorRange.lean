/- RunesRange's walk: the language's own range tells the same, up to where the text ceases to be right. -/
import Derived.Test.YtncjadjfgbeokaaDoorGoes
import Derived.Test.YtncjadjfgbeokaaDoorTold
namespace Go.Proofs.YtncjadjfgbeokaaDoor
open Go.RowKit

/-- the k-th rune -/
theorem step_at {l : List Nat} {k : Nat} (h : k < (rs l).length) :
    (rl k 0 l).length = k ∧ bad (l.drop (pos k l)) = none ∧ (rs l)[k]? = some (pos k l, rune (l.drop (pos k l))) ∧ pos (k + 1) l = pos k l + wd (l.drop (pos k l)) := by
  have hle : (rs l).length ≤ l.length := rl_length_le l.length 0 l
  have h1 : rl k 0 l = (rs l).take k := by
    unfold rs
    rw [rl_take, Nat.min_eq_left (by omega)]
  have h2 : (rl k 0 l).length = k := by rw [h1, List.length_take]; omega
  have h3 : bad (l.drop (pos k l)) = none := by
    rcases hb : bad (l.drop (pos k l)) with _ | e
    · rfl
    · have := (all_of_bad h2 (by rw [hb]; simp)).1
      rw [← this, h2] at h
      omega
  have h4 := rl_snoc 0 h2 h3
  refine ⟨h2, h3, ?_, h4.2⟩
  have h5 : rl (k + 1) 0 l = (rs l).take (k + 1) := by
    unfold rs
    rw [rl_take, Nat.min_eq_left (by omega)]
  have h6 : (rs l)[k]? = ((rs l).take (k + 1))[k]? := by rw [List.getElem?_take, if_pos (by omega)]
  rw [h6, ← h5, h4.1, List.getElem?_append_right (by omega), h2]
  simp
theorem flat_even {xs : List (Nat × Nat)} {k : Nat} {x : Nat × Nat} (h : xs[k]? = some x) : (flat xs)[2 * k]? = some (.int .i64 x.1) ∧ (flat xs)[2 * k + 1]? = some (.int .i64 x.2) := by
  induction xs generalizing k with
  | nil => simp at h
  | cons y xs ih =>
    rcases k with _ | k
    · simp at h; subst h; simp [flat]
    · simp at h
      have := ih h
      simp only [flat, List.flatMap_cons] at this ⊢
      rw [show 2 * (k + 1) = 2 * k + 2 by omega]
      simpa using this
/-- what a row that is owned holds -/
theorem row_cells {W : World} {b : Nat} {v : Value} {n : Nat} {xs : List Value} (h : W.ownsRow b 3 1 v n xs) : (v = .slice none 0 0 ∧ n = 0) ∨ ∃ g cap, v = .slice (some ⟨g, 0, none⟩) n cap ∧ b ≤ g ∧ g < W.heap.size ∧ n ≤ cap ∧ ∀ i u, xs[i]? = some u → W.cell? ⟨g, i, none⟩ = some u := by
  obtain ⟨_, h⟩ := h
  rcases h with h | ⟨g, cap, cur, rfl, hb, hg, hn, hc, hs, ht⟩
  · exact .inl h
  · refine .inr ⟨g, cap, rfl, hb, (Array.getElem?_eq_some_iff.1 hg).1, hn, fun i u hu => ?_⟩
    rw [← ht, List.getElem?_take] at hu
    split at hu
    · simp only [World.cell?, hg]
      simpa using hu
    · cases hu
theorem decode_pos (s : ByteArray) (p : Nat) (h : p < s.size) : 1 ≤ (Utf8.decode s p).2 ∧ (Utf8.decode s p).2 ≤ 4 := by
  rcases hb : bad ((bl s).drop p) with _ | e
  · rw [decode_good hb]
    exact ⟨(bad_none hb).1, wide_le _⟩
  · rw [decode_bad h hb]; simp
/-- a slice whose first cells read so -/
def Rd (W : World) (b : Nat) (base : Option Addr) (xs : List Value) : Prop := ∀ i u, xs[i]? = some u → ∃ g, base = some ⟨g, 0, none⟩ ∧ b ≤ g ∧ g < W.heap.size ∧ W.cell? ⟨g, i, none⟩ = some u
theorem Rd.of {W W' : World} {b : Nat} {base : Option Addr} {xs : List Value} (h : Rd W b base xs) (hb : Below W.heap.size W W') : Rd W' b base xs := fun i u hu => by
  obtain ⟨g, h1, h2, h3, h4⟩ := h i u hu
  exact ⟨g, h1, h2, Nat.lt_of_lt_of_le h3 hb.size, (World.cell?_of_block (hb.block _ h3)).trans h4⟩
theorem goes_all (s : ByteArray) (w : World) (hs : s.size ≤ 1099511627776) :
    Calls Tryd.prog 11 #[.string s, .int .i64 ((s.size : Int) + 1)] w fun e w' => ∃ base cap, e = .returned (.slice base (2 * (rs (bl s)).length) cap) ∧ Rd w' w.heap.size base (flat (rs (bl s))) ∧ Below w.heap.size w w' := by
  refine (goes_any s ((s.size : Int) + 1) w hs (by omega) (by omega)).mono ?_
  rintro e w' ⟨v, rfl, hrow, hb⟩
  have hle : (rs (bl s)).length ≤ s.size := by
    have : (rs (bl s)).length ≤ (bl s).length := rl_length_le (bl s).length 0 (bl s)
    rwa [bl_length] at this
  rw [List.take_of_length_le (by omega)] at hrow
  rcases row_cells hrow with ⟨rfl, h0⟩ | ⟨g, cap, rfl, hg, hgl, _, hc⟩
  · refine ⟨none, 0, by rw [h0], fun i u hu => ?_, hb⟩
    have := (List.getElem?_eq_some_iff.1 hu).1
    rw [flat_length] at this
    omega
  · exact ⟨_, cap, rfl, fun i u hu => ⟨g, rfl, hg, hgl, hc i u hu⟩, hb⟩

set_option maxRecDepth 100000 in
set_option maxHeartbeats 8000000 in
theorem range_walk (s : ByteArray) (hs : s.size ≤ 1048576) (w : World) (hT : Tb w) :
    Calls Tryd.prog 5 #[.string s] w fun e w' => e = .returned (.bool true) ∧ Below w.heap.size w w' := by
  have HT : Hid (Tb w) := hT
  clear hT
  have hz2 : (s.size : Int) ≤ 1048576 := by omega
  have hR : (rs (bl s)).length ≤ s.size := by
    have : (rs (bl s)).length ≤ (bl s).length := rl_length_le (bl s).length 0 (bl s)
    rwa [bl_length] at this
  obtain ⟨n, hRe⟩ : ∃ n, 2 * (rs (bl s)).length = n := ⟨_, rfl⟩
  have HN : Hid (2 * (rs (bl s)).length = n) := hRe
  go_enter Tryd.func5, Tryd.ntmps5
  go_wp2_with fail
  refine (shown_any _ HT.out).mono ?_
  rintro e w1 ⟨rfl, hb1⟩
  have HB1 : Hid (Below w.heap.size w w1) := hb1
  clear hb1
  go_wp2_with fail
  refine (goes_all s w1 (by omega)).mono ?_
  rintro e w2 ⟨base, cap, rfl, hrd, hb2⟩
  have HB2 : Hid (Below w.heap.size w w2) := HB1.out.trans (hb2.mono HB1.out.size)
  have HR2 : Hid (Rd w2 w1.heap.size base (flat (rs (bl s)))) := hrd
  rw [hRe]
  clear hrd hb2 hRe
  go_wp2_with fail
  obtain ⟨c, hc⟩ : ∃ c, chk (bl s) = c := ⟨_, rfl⟩
  refine (check_is s c w2 (by omega) hc (HT.out.of HB2.out HT.out.size)).mono ?_
  rintro e w3 ⟨rfl, hb3⟩
  have HB3 : Hid (Below w.heap.size w w3) := HB2.out.trans (hb3.mono HB2.out.size)
  have HR3 : Hid (Rd w3 w1.heap.size base (flat (rs (bl s)))) := HR2.out.of hb3
  have HC : Hid (chk (bl s) = c) := hc
  clear HR2 HB2 hb3 HB1 hc
  go_wp2_with fail
  obtain ⟨W1, hW1⟩ : ∃ W1, (w3.alloc (.cells #[.int .i64 (kindOf c), .int .i64 (atOf c)] 36)).iter s 0 = W1 := ⟨_, rfl⟩
  have k1 : Blk W1 w3.heap.size [.int .i64 (kindOf c), .int .i64 (atOf c)] 36 := by rw [← hW1]; exact (Blk.new _ _ _ rfl).alloc _
  have HI : Hid (W1.heap[w3.heap.size + 1]? = some (.stringIter s 0)) := by
    rw [← hW1]
    have := World.iter_heap (w3.alloc (.cells #[.int .i64 (kindOf c), .int .i64 (atOf c)] 36)) s 0
    rwa [World.size_alloc] at this
  have HB4 : Hid (Below w.heap.size w W1) := by rw [← hW1]; exact (HB3.out.alloc HB3.out.size _).alloc (by simp; exact Nat.le_succ_of_le HB3.out.size) _
  have HR4 : Hid (Rd W1 w1.heap.size base (flat (rs (bl s)))) := by rw [← hW1]; exact HR3.out.of (((Below.refl _ _).alloc (Nat.le_refl _) _).alloc (by simp) _)
  have HK : Hid (Blk W1 w3.heap.size [.int .i64 (kindOf c), .int .i64 (atOf c)] 36) := k1
  have HS : Hid (w3.heap.size + 2 = W1.heap.size ∧ w.heap.size ≤ w3.heap.size) := by rw [← hW1]; exact ⟨by simp [World.iter], HB3.out.size⟩
  have HR5 : Hid (∀ i u, (flat (rs (bl s)))[i]? = some u → ∃ g, base = some ⟨g, 0, none⟩ ∧ g < w3.heap.size ∧ W1.cell? ⟨g, i, none⟩ = some u) := fun i u hu => by
    obtain ⟨g, h1, h2, h3, h4⟩ := HR3.out i u hu
    obtain ⟨g', h1', _, _, h4'⟩ := HR4.out i u hu
    rw [h1] at h1'
    cases h1'
    exact ⟨g, h1, h3, h4'⟩
  rw [hW1]
  clear k1 hW1 HB3 HR3 HR4
  generalize w3.heap.size = bf at *
  go_loopw [6, 7] (fun i nx wr => ∃ (i' nx' p : Nat), i = .int .i64 i' ∧ nx = .int .i64 nx' ∧ wr.heap[bf + 1]? = some (.stringIter s p) ∧ Below (bf + 1) W1 wr ∧ i' ≤ 2 * p ∧ p ≤ s.size + 4 ∧
      ((∃ k, k ≤ (rs (bl s)).length ∧ i' = 2 * k ∧ p = pos k (bl s)) ∨ (c ≠ none ∧ p = en (bl s) + 1 ∧ i' = n + 2 ∧ nx' = en (bl s)) ∨ (c ≠ none ∧ n + 2 < i')))
    (fun _ _ wr => s.size - wr.iterPos (bf + 1))
  case atStart => exact ⟨0, 0, 0, rfl, rfl, HI.out, Below.refl _ _, by omega, by omega, .inl ⟨0, by omega, rfl, rfl⟩⟩
  case round =>
    obtain ⟨i, nx, p, rfl, rfl, hit, hbl, hip, hps, hph⟩ := hrel
    have HBL : Hid (Below (bf + 1) W1 wr) := hbl
    have hbk : Blk wr bf [.int .i64 (kindOf c), .int .i64 (atOf c)] 36 := (hbl.block _ (by omega)).trans HK.out
    have ck : wr.cell? ⟨bf, 0, none⟩ = some (.int .i64 (kindOf c)) := hbk.cell 0
    have ca : wr.cell? ⟨bf, 1, none⟩ = some (.int .i64 (atOf c)) := hbk.cell 1
    clear hbl hbk
    have hi0 : (0 : Int) ≤ (i : Int) := by omega
    have hi1 : (i : Int) ≤ 2097160 := by omega
    by_cases hlt : p < s.size
    · have hnx : ∀ ty, (Instr.next (.pointer (some ⟨bf + 1, 0, none⟩)) true ty).run Tryd.prog wr = _ := fun ty => Lib.run_next_any_at wr (bf + 1) s p ty hit hlt
      have hit2 := Lib.iterAt_heap wr (bf + 1) s p (p + (Utf8.decode s p).2) hit
      have HB2 : Hid (Below (bf + 1) W1 (wr.iterAt (bf + 1) s (p + (Utf8.decode s p).2))) := Lib.below_iterAt HBL.out (Nat.le_refl _) s _
      have hdp := decode_pos s p hlt
      have ck2 : (wr.iterAt (bf + 1) s (p + (Utf8.decode s p).2)).cell? ⟨bf, 0, none⟩ = some (.int .i64 (kindOf c)) := (World.cell?_of_block (Lib.iterAt_other _ _ _ _ _ (by simp))).trans ck
      have ca2 : (wr.iterAt (bf + 1) s (p + (Utf8.decode s p).2)).cell? ⟨bf, 1, none⟩ = some (.int .i64 (atOf c)) := (World.cell?_of_block (Lib.iterAt_other _ _ _ _ _ (by simp))).trans ca
      have hcl : ∀ (g j : Nat) (u : Value), g < bf → W1.cell? ⟨g, j, none⟩ = some u → (wr.iterAt (bf + 1) s (p + (Utf8.decode s p).2)).cell? ⟨g, j, none⟩ = some u := fun g j u hg hu => (World.cell?_of_block (HB2.out.block g (by omega))).trans hu
      have hitp : wr.iterPos (bf + 1) = p := by simp [World.iterPos, hit]
      have HIT : Hid (wr.iterPos (bf + 1) = p) := hitp
      clear hitp ck ca
      rcases hph with ⟨k, hk, hik, hpk⟩ | ⟨hcn, hp2, hi2, hnx2⟩ | ⟨hcn, hi2⟩
      · rcases Nat.lt_or_ge k (rs (bl s)).length with hkR | hkR
        · -- a rune of the text
          obtain ⟨h1, h2, h3, h4⟩ := step_at hkR
          rw [← hpk] at h2 h3 h4
          have hd := decode_good h2
          have hf := flat_even h3
          obtain ⟨g, hbase, hgl, he⟩ := HR5.out _ _ hf.1
          obtain ⟨g', hbase', _, ho⟩ := HR5.out _ _ hf.2
          rw [hbase] at hbase'
          cases hbase'
          subst hbase
          have he2 := hcl g _ _ hgl he
          have ho2 := hcl g _ _ hgl ho
          rw [← hik] at he2 ho2
          have hr := (rune_width h2).2.1
          rw [hd] at hnx hit2 HB2 hdp ck2 ca2 he2 ho2
          simp only at hnx hit2 HB2 hdp ck2 ca2 he2 ho2
          have hin : (i : Int) < (n : Int) := by have := HN.out; omega
          have hin1 : (i : Int) + 1 < (n : Int) := by have := HN.out; omega
          have hin0 : (0 : Int) ≤ (i : Int) + 1 := by omega
          have HNX : Hid (k + 1 ≤ (rs (bl s)).length ∧ i + 2 = 2 * (k + 1) ∧ p + wd ((bl s).drop p) = pos (k + 1) (bl s)) := ⟨by omega, by omega, h4.symm⟩
          have hwp : p + wd ((bl s).drop p) ≤ s.size := by
            have := pos_le (k + 1) (bl s)
            rw [bl_length] at this
            omega
          have hr0 : (0 : Int) ≤ (rune ((bl s).drop p) : Int) := by omega
          have hr1 : (rune ((bl s).drop p) : Int) ≤ 1114111 := by omega
          clear hcl h1 h2 h3 h4 hf he ho hd hit hik hpk hkR hk
          generalize wr.iterAt (bf + 1) s (p + wd ((bl s).drop p)) = W2 at *
          generalize rune ((bl s).drop p) = r at *
          generalize wd ((bl s).drop p) = wi at *
          go_wp2_with fail
          go_roundw
          case rel => exact ⟨i + 2, nx, p + wi, by go_num, rfl, hit2, HB2.out, by omega, by omega, .inl ⟨k + 1, HNX.out⟩⟩
          case measure =>
            rw [HIT.out]
            simp only [World.iterPos, hit2]
            omega
        · -- the first byte of what is no rune
          obtain rfl : k = (rs (bl s)).length := by omega
          rw [(rl_own (bl s)).2] at hpk
          subst hpk
          rw [HN.out] at hik
          subst hik
          have hne : en (bl s) ≠ (bl s).length := by rw [bl_length]; omega
          obtain ⟨e, h1, h2, h3⟩ := chk_some hne
          have hce : c = some (en (bl s) + e) := HC.out.symm.trans h2
          have hd := decode_bad hlt h1
          rw [hd] at hnx hit2 HB2 hdp ck2 ca2
          simp only at hnx hit2 HB2 hdp ck2 ca2
          rw [hce] at ck2 ca2
          simp only [kindOf, atOf] at ck2 ca2
          have hge : ¬ (((en (bl s) + e : Nat) : Int) < (en (bl s) : Int)) := by omega
          clear hcl hne h1 h2 h3 hd hit hk hkR HR5 hR
          generalize hW2 : wr.iterAt (bf + 1) s (en (bl s) + 1) = W2 at *
          generalize hen : en (bl s) = p at *
          generalize p + e = q at *
          go_wp2_with fail
          go_roundw
          case rel => exact ⟨i + 2, p, p + 1, by go_num, rfl, hit2, HB2.out, by omega, by omega, .inr (.inl ⟨by rw [hce]; simp, rfl, rfl, rfl⟩)⟩
          case measure =>
            rw [HIT.out]
            simp only [World.iterPos, hit2]
            omega
      · -- what follows it
        have hk40 : kindOf c = 40 := by
          rcases c with _ | A
          · exact absurd rfl hcn
          · rfl
        rw [hk40] at ck2
        have HX : Hid (p = nx + 1 ∧ i = n + 2) := ⟨by omega, hi2⟩
        have ha : ¬ (i : Int) < (n : Int) := by omega
        have hb : ¬ (i : Int) = (n : Int) := by omega
        have hnx0 : (0 : Int) ≤ (nx : Int) := by omega
        have hnx1 : (nx : Int) ≤ 1048576 := by omega
        have hn1 : (n : Int) ≤ 2097160 := by omega
        have HCN : Hid (c ≠ none) := hcn
        clear hcl hp2 hit hnx2 hi2 HR5 hR hk40 hcn
        generalize (Utf8.decode s p).1 = r at *
        generalize (Utf8.decode s p).2 = wi at *
        generalize wr.iterAt (bf + 1) s (p + wi) = W2 at *
        go_wp2_with fail
        · rename_i _ _ h3
          exfalso
          have := HX.out
          rw [bne_iff_ne] at h3
          omega
        all_goals
          go_roundw
          case rel => exact ⟨i + 2, nx, p + wi, congrArg (Value.int .i64) (by have := HX.out; omega), rfl, hit2, HB2.out, by omega, by omega, .inr (.inr ⟨HCN.out, by have := HX.out; omega⟩)⟩
          case measure =>
            rw [HIT.out]
            simp only [World.iterPos, hit2]
            omega
      · -- further on
        have ha : ¬ (i : Int) < (n : Int) := by omega
        have hb : ¬ (i : Int) = (n : Int) := by omega
        have hb2 : ¬ (i : Int) = (n : Int) + 2 := by omega
        have hn1 : (n : Int) ≤ 2097160 := by omega
        have HCN : Hid (c ≠ none) := hcn
        clear hcl hit HR5 hR hcn
        generalize (Utf8.decode s p).1 = r at *
        generalize (Utf8.decode s p).2 = wi at *
        generalize wr.iterAt (bf + 1) s (p + wi) = W2 at *
        go_wp2_with fail
        all_goals
          go_roundw
          case rel => exact ⟨i + 2, nx, p + wi, by go_num, rfl, hit2, HB2.out, by omega, by omega, .inr (.inr ⟨HCN.out, by omega⟩)⟩
          case measure =>
            rw [HIT.out]
            simp only [World.iterPos, hit2]
            omega
    · -- the text's end
      have hnx : ∀ ty, (Instr.next (.pointer (some ⟨bf + 1, 0, none⟩)) true ty).run Tryd.prog wr = _ := fun ty => Lib.run_next_end_at wr (bf + 1) s p ty hit hlt
      have HBE : Hid (Below w.heap.size w wr) := HB4.out.trans (HBL.out.mono (by have := HS.out; omega))
      rcases hph with ⟨k, hk, hik, hpk⟩ | hph
      · have hle := pos_le k (bl s)
        rw [bl_length] at hle
        have hps2 : p = s.size := by omega
        have hkR : k = (rs (bl s)).length := by
          rcases Nat.lt_or_ge k (rs (bl s)).length with h | h
          · exfalso
            have h2 := (step_at h).2.1
            rw [← hpk, hps2, List.drop_eq_nil_of_le (by rw [bl_length]; exact Nat.le_refl _)] at h2
            simp [bad_nil] at h2
          · omega
        subst hkR
        rw [(rl_own (bl s)).2] at hpk
        have hcn : c = none := by
          rw [← HC.out, chk_none, bl_length]; omega
        rw [HN.out] at hik
        subst hik
        rw [hcn] at ck ca
        simp only [kindOf, atOf] at ck ca
        clear hps2 hpk hle hk hip hps hcn hR HR5 hit
        go_wp2_with fail
        go_ret
        exact ⟨rfl, HBE.out⟩
      · have hcn : c ≠ none := by rcases hph with h | h <;> exact h.1
        have hin : ¬ (i : Int) = (n : Int) := by rcases hph with h | h <;> omega
        have hk40 : kindOf c = 40 := by
          rcases c with _ | A
          · exact absurd rfl hcn
          · rfl
        rw [hk40] at ck
        clear hcn hk40 hph hR HR5 hit hip hps
        go_wp2_with fail
        all_goals
          go_ret
          exact ⟨ret_bool (by simp; omega), HBE.out⟩
end Go.Proofs.YtncjadjfgbeokaaDoor
