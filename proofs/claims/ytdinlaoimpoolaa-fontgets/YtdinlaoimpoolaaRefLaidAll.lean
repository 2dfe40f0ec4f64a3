/- The reference lays a number behind bytes. -/
import Derived.Test.YtdinlaoimpoolaaPuts
import Derived.Test.YtdinlaoimpoolaaClone
namespace Go.Proofs.Ytdinlaoimpoolaa
open Go.RowKit

theorem info5z : (Try.prog.info? 5).map (fun i => (i.zero, i.size, i.bytes)) = some (some (.int .u8 0), 1, 1) := by kernel_rfl
theorem u8s_one (bs : List Nat) : ∀ u ∈ u8s bs, u.oneCell' = true := by
  intro u hu
  simp only [u8s, List.mem_map] at hu
  obtain ⟨x, _, rfl⟩ := hu
  rfl
theorem own_le {w : World} {base base' size n : Nat} {e : TypeId} {v : Value} {xs : List Value} (h : w.ownsRow base e size v n xs) (hb : base' ≤ base) : w.ownsRow base' e size v n xs :=
  ⟨h.1, h.2.elim Or.inl (fun ⟨g, cap, cur, hv, hg, r⟩ => Or.inr ⟨g, cap, cur, hv, Nat.le_trans hb hg, r⟩)⟩
theorem grown_behind {w a c : World} {r : Option Nat} (h : Below w.heap.size w a) (k : a.grownBy c r) : w.grownBy c r :=
  ⟨k.os.trans h.os, k.tape.trans h.tape, k.output.trans h.output, Nat.le_trans h.size k.size, fun j hj hn => (k.block j (Nat.lt_of_lt_of_le hj h.size) hn).trans (h.block j hj)⟩
theorem own_below {w a : World} {base size n : Nat} {e : TypeId} {v : Value} {xs : List Value} (h : w.ownsRow base e size v n xs) (k : Below w.heap.size w a) : a.ownsRow base e size v n xs :=
  h.kept (row := none) ⟨k.os, k.tape, k.output, k.size, fun j hj _ => k.block j hj⟩ (by rcases v.ownBlock with _ | _ <;> simp)
/-- a row's block is no block of another type -/
theorem own_ne {w : World} {base size n : Nat} {e t : TypeId} {v : Value} {xs ys : List Value} {b : Nat} (h : w.ownsRow base e size v n xs) (k : Blk w b ys t) (het : e ≠ t) : v.ownBlock ≠ some b := by
  intro hb
  rcases h.2 with ⟨rfl, _⟩ | ⟨g, cap, cur, rfl, _, hg, _⟩
  · simp [Value.ownBlock] at hb
  · simp only [Value.ownBlock, Option.some.injEq] at hb
    subst hb
    have hk : w.heap[g]? = some (.cells ys.toArray t (0, 0)) := k
    rw [hg] at hk
    simp at hk
    exact het hk.2
theorem blk_grown {w a : World} {b : Nat} {xs : List Value} {t : TypeId} {r : Option Nat} (h : Blk w b xs t) (k : w.grownBy a r) (hn : r ≠ some b) : Blk a b xs t := (k.block b h.lt (fun e => hn e.symm)).trans h
set_option maxRecDepth 100000 in
set_option maxHeartbeats 4000000 in
theorem laid_any (base m n k : Nat) (v : Value) (bs : List Nat) (w : World) (hm : bs.length = m) (hmx : m ≤ 1000000) (hn : n ≤ 4294967295) (hk : k ≤ 4) (hb : base ≤ w.heap.size) (hown : w.ownsRow base 5 1 v m (u8s bs)) :
    Calls Try.prog 27 #[v, .int .i64 n, .int .i64 k] w fun e w' => ∃ v', e = .returned v' ∧ w'.ownsRow base 5 1 v' (m + k) (u8s (bs ++ be k n)) ∧ w.grownBy w' v.ownBlock := by
  obtain ⟨i0, hi, hz0, hz1, hz2⟩ := info_parts info5z
  have HOWN := hid hown
  have HM := hid (And.intro hm hmx)
  have hn1 : (n : Int) ≤ 4294967295 := by omega
  clear hown hm hmx
  go_enter Try.func27, Try.ntmps27
  go_wp2_with fail
  go_loopw [1, 7, 8] (fun vn vo vi wr => ∃ (i q : Nat) (ad : Option Addr) (c : Nat), vi = .int .i64 i ∧ i ≤ k ∧ vn = .int .i64 q ∧ q = n / 256 ^ i ∧ vo = .slice ad i c ∧ Sl wr ad i (u8s (be i n)) ∧ Below w.heap.size w wr) (fun _ _ vi _ => k - (RowKit.intOf vi).toNat)
  case atStart => exact ⟨0, n, some ⟨w.heap.size, 0, none⟩, 0, rfl, Nat.zero_le _, rfl, by simp, rfl, fun h => absurd rfl h, (Below.refl _ w).alloc (Nat.le_refl _) _⟩
  case round =>
    obtain ⟨i, q, ad, c, rfl, hik, rfl, hq, rfl, hsl, hbel⟩ := hrel
    have HSL := hid hsl
    have HB := hid hbel
    have HQ := hid hq
    have hq9 : (q : Int) ≤ 4294967295 := by
      have : n / 256 ^ i ≤ n := Nat.div_le_self _ _
      omega
    clear hsl hbel hq
    by_cases hlt : i < k
    · have hlt' : (i : Int) < (k : Int) := by omega
      have HV : Hid ((q : Int) % 256 = ((q % 256 : Nat) : Int)) := hid (by omega)
      have HX : Hid ((wr.alloc (.cells #[.int .u8 ((q : Int) % 256)] 5)).ownsRow wr.heap.size 5 1 (.slice (some ⟨wr.heap.size, 0, none⟩) 1 1) 1 [.int .u8 ((q : Int) % 256)]) := hid (World.ownsRow_lit wr #[.int .u8 ((q : Int) % 256)] 1 (Nat.le_refl _) (by unfold maxLen; omega) (by simp))
      have HS2 : Hid (Sl (wr.alloc (.cells #[.int .u8 ((q : Int) % 256)] 5)) ad i (u8s (be i n))) := hid (HSL.out.below ((Below.refl _ wr).alloc (Nat.le_refl _) _))
      go_wp2_with (at_builtin; refine wpList_append_sl _ rfl _ _ 56 rfl wr.heap.size 5 i0 _ 1 1 Try.underlying56 hi hz0 hz1 hz2 rfl (by decide) _ _ _ rfl HX.out ad i c (u8s (be i n)) rfl ?qc1 HS2.out (u8s_one _) ?qc4 ?qc5 ?qc6 ?_)
      case qc1 => rw [u8s_len, be_len, Nat.mul_one]
      case qc4 => unfold maxLen; omega
      case qc5 => omega
      case qc6 => simp
      intro v' w1 hown hgrow
      obtain ⟨ad', cap', rfl, hsl, how⟩ := row_reads hown
      have HB1 : Hid (Below w.heap.size w w1) := hid ((HB.out.alloc HB.out.size _).grown hgrow.grown (by simp; exact Nat.le_succ_of_le HB.out.size) (by intro k hk; simp [Value.ownBlock] at hk; have := HB.out.size; omega))
      have HS1 := hid hsl
      clear hown hgrow hsl how HX HS2
      go_wp2_with fail
      go_roundw
      case rel =>
        refine ⟨i + 1, q / 256, ad', cap', by go_num, by omega, rfl, ?_, by rw [Nat.add_comm], ?_, HB1.out⟩
        · rw [HQ.out, Nat.div_div_eq_div_mul, Nat.pow_succ]
        · have := HS1.out
          rw [HV.out, HQ.out, Nat.add_comm] at this
          exact this
      case measure => simp [RowKit.intOf]; omega
    · obtain rfl : i = k := by omega
      have hlt' : ¬ (i : Int) < (i : Int) := by omega
      have HO2 : Hid (wr.ownsRow base 5 1 v m (u8s bs)) := hid (own_below HOWN.out HB.out)
      clear hlt
      go_wp2_with (at_builtin; refine wpList_append_sl _ rfl _ _ 56 rfl base 5 i0 _ 1 1 Try.underlying56 hi hz0 hz1 hz2 rfl (by decide) v m (u8s bs) rfl HO2.out ad i c (u8s (be i n)) rfl ?qc1 HSL.out (u8s_one _) ?qc4 ?qc5 ?qc6 ?_)
      case qc1 => rw [u8s_len, be_len]
      case qc4 => have := HM.out; unfold maxLen; omega
      case qc5 => have := HM.out; omega
      case qc6 => have := HB.out.size; omega
      intro v' w1 hown hgrow
      have HO3 := hid hown
      have HG := hid hgrow
      clear hown hgrow
      go_wp2_with fail
      go_ret
      refine ⟨v', rfl, ?_, ?_⟩
      · rw [u8s_app]; exact HO3.out
      · exact grown_behind HB.out HG.out.grown
end Go.Proofs.Ytdinlaoimpoolaa
namespace Go.Proofs.Ytdinlaoimpoolaa
open Go.RowKit

theorem u8s_at {bs : List Nat} {i x : Nat} (h : bs[i]? = some x) : (u8s bs)[i]? = some (.int .u8 (x : Int)) := by simp [u8s, h]
set_option maxRecDepth 100000 in
set_option maxHeartbeats 4000000 in
theorem sum_any (bs : List Nat) (ad : Option Addr) (c : Nat) (w : World) (hl : bs.length ≤ 9223372036854775807) (h256 : ∀ b ∈ bs, b < 256) (hs : Sl w ad bs.length (u8s bs)) :
    Calls Try.prog 28 #[.slice ad bs.length c] w fun e w' => e = .returned (.int .i64 (sumB bs)) ∧ w' = w := by
  have HS := hid hs
  have H256 := hid h256
  obtain ⟨n, hn⟩ : ∃ n, bs.length = n := ⟨_, rfl⟩
  have HN := hid hn
  rw [hn] at hl HS ⊢
  have hl' : (n : Int) ≤ 9223372036854775807 := by omega
  have HLT := hid (sumB_lt bs)
  clear hs h256 hn
  go_enter Try.func28, Try.ntmps28
  go_wp2_with fail
  go_loopw [3, 4] (fun vs vi wr => ∃ (i s : Nat), vi = .int .i64 i ∧ i ≤ n ∧ vs = .int .u32 s ∧ s = sumF 2166136261 (bs.take i) ∧ wr = w) (fun _ vi _ => n - (RowKit.intOf vi).toNat)
  case atStart => exact ⟨0, 2166136261, rfl, Nat.zero_le _, rfl, rfl, rfl⟩
  case round =>
    obtain ⟨i, s, rfl, hin, rfl, hsv, rfl⟩ := hrel
    have HV := hid hsv
    clear hsv
    by_cases hlt : i < n
    · have hlt' : (i : Int) < (n : Int) := by omega
      obtain ⟨x, hx⟩ := some_at (xs := bs) (i := i) (by rw [HN.out]; exact hlt)
      obtain ⟨b, off, rfl, hb, hat⟩ := HS.out (by omega)
      have hcell := hat i _ (u8s_at hx)
      have HX := hid hx
      have hx256 : x < 256 := H256.out x (List.mem_of_getElem? hx)
      have hs32 : s < 4294967296 := by rw [HV.out]; exact sumF_lt (by omega) _
      have HE : Hid (((wit s x : Nat) : Int) = bits .xor .u32 (s : Int) (x : Int) * 16777619 % 4294967296) := by
        show _ = _
        rw [xor_u32 s x hs32 (by omega)]
        unfold wit
        omega
      have hi0 : (0 : Int) ≤ (i : Int) := by omega
      clear hat hb hx
      go_wp2_with fail
      go_roundw
      case rel =>
        refine ⟨i + 1, wit s x, by go_num, by omega, by rw [HE.out], ?_, by first | rfl | trivial⟩
        rw [List.take_add_one, HX.out, HV.out]
        exact (sumF_snoc _ _ _).symm
      case measure => simp [RowKit.intOf]; omega
    · obtain rfl : i = n := by omega
      have hlt' : ¬ (i : Int) < (i : Int) := by omega
      clear hlt
      go_wp2_with fail
      have hv := HV.out
      rw [List.take_of_length_le (by rw [HN.out]; exact Nat.le_refl _)] at hv
      go_ret
      refine ⟨?_, rfl⟩
      have hs32 : s < 4294967296 := by rw [hv]; exact sumF_lt (by omega) _
      show Ending.returned (Value.int .i64 (wrap64 (s : Int))) = _
      have hw : wrap64 (s : Int) = (s : Int) := by unfold wrap64; omega
      rw [hw, hv]; rfl
end Go.Proofs.Ytdinlaoimpoolaa
