/- The reference reads a number. -/
import Derived.Test.YtdinlaoimpoolaaRefReader
namespace Go.Proofs.Ytdinlaoimpoolaa
open Go.RowKit

theorem step_why {m : M} (h : m.stepOk 1 = false) : (m.step 1).why ≠ 0 := by
  unfold M.stepOk chOk at h
  unfold M.step
  split
  · simp at h; omega
  · split
    · simp
    · simp at h; omega
theorem hold_why {m : M} (h : m.holdOk 1 = false) : (m.hold 1).why ≠ 0 := by
  unfold M.holdOk chOk at h
  unfold M.hold
  split
  · simp at h; omega
  · split
    · simp
    · simp at h; omega
theorem read_zero {s : St} (h1 : s.nu = 0) (h2 : s.bs = 0) : read s 0 0 = s := by
  obtain ⟨nx, nu, bs, sm, em, gs, ps, ng, np, g, p⟩ := s
  simp only at h1 h2
  subst h1; subst h2
  simp [read, sumF, be]
theorem one_read {s : St} (h1 : s.nu = 0) (j n c : Nat) (hc : c < 256) : one (read s j n) c = read s (j + 1) (n * 256 + c) := by
  have hb : be (j + 1) (n * 256 + c) = be j n ++ [c] := be_snoc c hc j n
  obtain ⟨nx, nu, bs, sm, em, gs, ps, ng, np, g, p⟩ := s
  simp only at h1
  subst h1
  by_cases h15 : nx = 15
  · simp [one, read, h15]; omega
  · simp [one, read, h15, hb, sumF_app, sumF_one]; omega

section
variable (r mb : Nat) (b : ByteArray) (RES : M × ((Int × Nat) ⊕ St))
/-- something was wrong -/
def Bd (W : World) : Prop := ∃ (i a : Nat) (e : Int) (m : M), RS W r mb b i e a m ∧ m.Ok ∧ i ≤ b.size ∧ e ≠ 0 ∧ RES = (m, .inl (e, a))
/-- fine, and a number is to be read -/
structure Ra (s : St) (W : World) (i : Nat) (m : M) : Prop where
  rs : RS W r mb b i 0 0 m
  ok : m.Ok
  le : i ≤ b.size
  at_ : getM m s i ((bl b).drop i) = RES
  sm : s.nx ≤ 15 → s.sm = sumB ((bl b).take i)
  nu : s.nu = 0
  bs : s.bs = 0
/-- fine, and a number was read -/
structure Pd (s : St) (n : Nat) (W : World) (i : Nat) (m : M) : Prop where
  rs : RS W r mb b i 0 0 m
  ok : m.Ok
  le : i ≤ b.size
  pos : 1 ≤ i
  res : RES = if fits (read s (sz s.nx) n) n = true then getM m (nxt (read s (sz s.nx) n)) i ((bl b).drop i) else (m, .inl (bad s, i - 1))
  sm : s.nx ≤ 14 → (read s (sz s.nx) n).sm = sumB ((bl b).take i)
/-- in the midst of a number -/
structure Mi (s : St) (j n : Nat) (W : World) (i : Nat) (m : M) : Prop where
  rs : RS W r mb b i 0 0 m
  ok : m.Ok
  le : i ≤ b.size
  at_ : j < sz s.nx → getM m (read s j n) i ((bl b).drop i) = RES
  done : j = sz s.nx → 1 ≤ i ∧ RES = if fits (read s j n) n = true then getM m (nxt (read s j n)) i ((bl b).drop i) else (m, .inl (bad s, i - 1))
  sm : s.nx ≤ 14 → (read s j n).sm = sumB ((bl b).take i)
end
theorem Bd.below {r mb : Nat} {b : ByteArray} {RES : M × ((Int × Nat) ⊕ St)} {W W' : World} (h : Bd r mb b RES W) (k : Below W.heap.size W W') : Bd r mb b RES W' := by
  obtain ⟨i, a, e, m, h1, h2⟩ := h
  exact ⟨i, a, e, m, h1.below k, h2⟩
theorem Ra.below {r mb : Nat} {b : ByteArray} {RES : M × ((Int × Nat) ⊕ St)} {s : St} {W W' : World} {i : Nat} {m : M} (h : Ra r mb b RES s W i m) (k : Below W.heap.size W W') : Ra r mb b RES s W' i m := ⟨h.rs.below k, h.ok, h.le, h.at_, h.sm, h.nu, h.bs⟩
theorem Pd.below {r mb : Nat} {b : ByteArray} {RES : M × ((Int × Nat) ⊕ St)} {s : St} {n : Nat} {W W' : World} {i : Nat} {m : M} (h : Pd r mb b RES s n W i m) (k : Below W.heap.size W W') : Pd r mb b RES s n W' i m := ⟨h.rs.below k, h.ok, h.le, h.pos, h.res, h.sm⟩

/-- a byte of a number -/
theorem mi_next {r mb : Nat} {b : ByteArray} {RES : M × ((Int × Nat) ⊕ St)} {s : St} {j n : Nat} {W W' : World} {i c : Nat} {m : M} (h : Mi r mb b RES s j n W i m) (hnu : s.nu = 0) (hbs : s.bs = 0) (hj : j < sz s.nx) (hc : (bl b)[i]? = some c) (hst : m.stepOk 1 = true) (hrs : RS W' r mb b (i + 1 : Nat) 0 0 (m.step 1)) :
    Mi r mb b RES s (j + 1) (n * 256 + c) W' (i + 1) (m.step 1) := by
  have hc256 : c < 256 := bl_lt b c (List.mem_of_getElem? hc)
  have hil : i < b.size := by
    have := (List.getElem?_eq_some_iff.1 hc).1
    rwa [bl_length] at this
  have h1 := h.at_ hj
  rw [drop_at hc, getM, if_pos hst] at h1
  have ho := one_read (s := s) hnu j n c hc256
  have hb2 : (read s j n).bs = j := by simp [read, hbs]
  have hx2 : (read s j n).nx = s.nx := rfl
  refine ⟨hrs, M.step_ok h.ok 1, hil, fun hlt => ?_, fun heq => ⟨by omega, ?_⟩, fun h14 => ?_⟩
  · unfold tk at h1
    rw [hb2, hx2, if_pos hlt, ho] at h1
    exact h1
  · unfold tk at h1
    rw [hb2, hx2, if_neg (by omega), ho] at h1
    have hnu2 : (read s (j + 1) (n * 256 + c)).nu = n * 256 + c := by simp [read, hnu]
    rw [hnu2] at h1
    by_cases hf : fits (read s (j + 1) (n * 256 + c)) (n * 256 + c) = true
    · rw [if_pos hf] at h1
      rw [if_pos hf]
      exact h1.symm
    · rw [if_neg hf] at h1
      rw [if_neg hf, Nat.add_sub_cancel]
      exact h1.symm
  · rw [← ho]
    have : (one (read s j n) c).sm = wit (read s j n).sm c := by
      unfold one
      rw [hx2]
      simp only []
      rw [if_neg (by omega)]
    rw [this, h.sm h14, List.take_add_one, hc]
    exact (sumF_snoc _ _ _).symm
theorem wrap_num {n c : Nat} (hn : n < 4294967296) (hc : c < 256) : IntKind.i64.wrap (IntKind.i64.wrap ((n : Int) * 256) + IntKind.i64.wrap (c : Int)) = ((n * 256 + c : Nat) : Int) := by
  have w1 : IntKind.i64.wrap ((n : Int) * 256) = (n : Int) * 256 := by
    simp only [IntKind.wrap, IntKind.bits, IntKind.signed]
    simp
    omega
  have w2 : IntKind.i64.wrap (c : Int) = (c : Int) := by
    simp only [IntKind.wrap, IntKind.bits, IntKind.signed]
    simp
    omega
  rw [w1, w2]
  simp only [IntKind.wrap, IntKind.bits, IntKind.signed]
  simp
  omega
/-- the same with n within bounds -/
theorem pow_bound {j n c wide : Nat} (hj : j < wide) (hw : wide ≤ 4) (hn : n < 256 ^ j) (hc : c < 256) : n * 256 + c < 256 ^ (j + 1) ∧ n * 256 + c < 4294967296 := by
  have h1 : n * 256 + c < 256 ^ (j + 1) := by rw [Nat.pow_succ]; omega
  have h2 : 256 ^ (j + 1) ≤ 256 ^ 4 := Nat.pow_le_pow_right (by decide) (by omega)
  exact ⟨h1, by omega⟩
set_option maxRecDepth 100000 in
set_option maxHeartbeats 8000000 in
theorem number_any (r mb : Nat) (b : ByteArray) (RES : M × ((Int × Nat) ⊕ St)) (s : St) (wide : Nat) (hw : wide = sz s.nx) (hw4 : wide ≤ 4) (hw1 : 1 ≤ wide) (hsz : b.size ≤ 9223372036854775807) (w : World) (h : (∃ i m, Ra r mb b RES s w i m ∧ (s.nx = 16 → i < b.size)) ∨ Bd r mb b RES w) :
    Calls Try.prog 36 #[.pointer (some ⟨r, 0, none⟩), .int .i64 wide] w fun e w' => ∃ n : Nat, e = .returned (.int .i64 n) ∧ n < 4294967296 ∧ Only [r, mb] w w' ∧ ((∃ i m, Pd r mb b RES s n w' i m) ∨ (Bd r mb b RES w' ∧ n = 0)) := by
  have HI : Hid (∃ j n : Nat, j = 0 ∧ n = 0 ∧ ((∃ i m, Mi r mb b RES s j n w i m ∧ s.nu = 0 ∧ s.bs = 0 ∧ (s.nx = 16 → j < wide → i < b.size)) ∨ (Bd r mb b RES w ∧ j = 0 ∧ n = 0))) := hid (by
    refine ⟨0, 0, rfl, rfl, ?_⟩
    rcases h with ⟨i, m, ha, h16⟩ | hb
    · refine .inl ⟨i, m, ⟨ha.rs, ha.ok, ha.le, fun _ => ?_, fun e => ?_, fun h14 => ?_⟩, ha.nu, ha.bs, fun e _ => h16 e⟩
      · rw [read_zero ha.nu ha.bs]; exact ha.at_
      · omega
      · rw [read_zero ha.nu ha.bs]; exact ha.sm (by omega)
    · exact .inr ⟨hb, rfl, rfl⟩)
  have HW := hid hw
  clear h hw
  go_enter Try.func36, Try.ntmps36
  go_wp2_with fail
  go_loopw [5, 6] (fun vn vi wr => ∃ (j n : Nat), vi = .int .i64 j ∧ vn = .int .i64 n ∧ j ≤ wide ∧ n < 256 ^ j ∧ n < 4294967296 ∧ Only [r, mb] w wr ∧ ((∃ i m, Mi r mb b RES s j n wr i m ∧ s.nu = 0 ∧ s.bs = 0 ∧ (s.nx = 16 → j < wide → i < b.size)) ∨ (Bd r mb b RES wr ∧ j = 0 ∧ n = 0))) (fun _ vi _ => wide - (RowKit.intOf vi).toNat)
  case atStart =>
    obtain ⟨j, n, rfl, rfl, hh⟩ := HI.out
    exact ⟨0, 0, rfl, rfl, Nat.zero_le _, by decide, by decide, Only.refl _ _, hh⟩
  case round =>
    obtain ⟨j, n, rfl, rfl, hj, hn, hn4, hon, hst⟩ := hrel
    have HON := hid hon
    have HN := hid (And.intro hn hn4)
    clear hon hn HI
    rcases hst with ⟨i, m, hmi, hnu, hbs, h16⟩ | ⟨hbd, rfl, rfl⟩
    · have HM := hid hmi
      have H2 := hid (And.intro hnu (And.intro hbs h16))
      clear hmi hnu hbs h16
      by_cases hlt : j < wide
      · have hlt' : (j : Int) < (wide : Int) := by omega
        have HF := hid (fine_any r mb b i 0 0 m wr HM.out.rs)
        have c1 : wr.cell? ⟨r, 1, none⟩ = some (.string b) := HM.out.rs.blk.cell 1
        have c2 : wr.cell? ⟨r, 2, none⟩ = some (.int .i64 i) := HM.out.rs.blk.cell 2
        have c0 : wr.cell? ⟨r, 0, none⟩ = some (.pointer (some ⟨mb, 0, none⟩)) := HM.out.rs.blk.cell 0
        go_wp2_with (go_at_call 38; refine HF.out.mono ?_; rintro e w' ⟨rfl, rfl⟩)
        have k1 : w'.drew.cell? ⟨r, 1, none⟩ = some (.string b) := c1
        have k2 : w'.drew.cell? ⟨r, 2, none⟩ = some (.int .i64 i) := c2
        have HR1 := hid HM.out.rs.drew
        have hsz' : (b.size : Int) ≤ 9223372036854775807 := by omega
        by_cases hend : i < b.size
        · have he1 : (i : Int) < (b.size : Int) := by omega
          have HEND := hid hend
          obtain ⟨c, hc⟩ : ∃ c, (bl b)[i]? = some c := ⟨_, List.getElem?_eq_getElem (by rw [bl_length]; exact hend)⟩
          have HC := hid hc
          have hc256 : c < 256 := bl_lt b c (List.mem_of_getElem? hc)
          have hby : ∀ (hh : i < b.size), ((b[i]'hh).toNat : Int) = (c : Int) := fun hh => by
            have := bl_at b i hh
            rw [hc] at this
            cases this; rfl
          have HC256 := hid hc256
          have HBY := hid hby
          clear hc hby
          go_region_held3 (fun X => X.cell? ⟨r, 1, none⟩ = some (.string b) ∧ X.cell? ⟨r, 2, none⟩ = some (.int .i64 i)) (exact ⟨k1, k2⟩) (fail)
          obtain ⟨W, hW⟩ : ∃ W, w'.drew = W := ⟨_, rfl⟩
          have HON1 : Hid (Only [r, mb] w W) := hid (by rw [← hW]; exact HON.out.drew)
          have HM1 : Hid (Mi r mb b RES s j n W i m) := hid (by rw [← hW]; exact ⟨HM.out.rs.drew, HM.out.ok, HM.out.le, HM.out.at_, HM.out.done, HM.out.sm⟩)
          rw [hW] at k1 k2 HR1 ⊢
          clear hW c0 c1 c2 HM HON HF
          have c0 : W.cell? ⟨r, 0, none⟩ = some (.pointer (some ⟨mb, 0, none⟩)) := HR1.out.blk.cell 0
          have HST := hid (stepR_any m HM1.out.ok mb 1 W HR1.out.mt)
          go_wp2_with fail
          refine HST.out.mono ?_
          rintro e W2 ⟨rfl, hb2, ho2⟩
          have HR2 : Hid (RS W2 r mb b i 0 0 (m.step 1)) := hid ⟨ho2.blk HR1.out.blk (by rw [List.mem_singleton]; exact HR1.out.ne), hb2⟩
          have HON2 : Hid (Only [r, mb] w W2) := hid (HON1.out.trans (ho2.mono (by intro k _ h; simp at h ⊢; exact .inr h)))
          clear hb2 ho2 k1 k2 c0 HST
          rcases hst : m.stepOk 1 with _ | _
          · have HS := hid hst
            have HWY := hid (step_why hst)
            have HRF := hid (refusedR_any (m.step 1) mb W2 HR2.out.mt)
            have HWR := hid (wrong_any (m.step 1).why 0 r mb b i 0 0 (m.step 1) W2 HR2.out)
            have c0 : W2.cell? ⟨r, 0, none⟩ = some (.pointer (some ⟨mb, 0, none⟩)) := HR2.out.blk.cell 0
            clear hst
            go_wp2_with fail
            refine HRF.out.mono ?_
            rintro e W3 ⟨rfl, rfl⟩
            go_wp2_with fail
            refine HWR.out.mono ?_
            rintro e W4 ⟨rfl, h1, h2⟩
            have HR4 := hid h1
            have HON4 : Hid (Only [r, mb] w W4) := hid (HON2.out.trans (h2.mono (by intro k _ h; simp at h ⊢; exact .inl h)))
            clear h1 h2
            go_wp2_with fail
            go_ret
            refine ⟨0, rfl, by decide, HON4.out, .inr ⟨⟨i, 0, (m.step 1).why, m.step 1, ?_, M.step_ok HM1.out.ok 1, HM1.out.le, HWY.out, ?_⟩, rfl⟩⟩
            · have := HR4.out
              simp only [if_true] at this
              exact this
            · have h1 := HM1.out.at_ (by rw [← HW.out]; omega)
              rw [drop_at HC.out, getM, if_neg (by rw [HS.out]; decide)] at h1
              exact h1.symm
          · have HS := hid hst
            have c1 : W2.cell? ⟨r, 1, none⟩ = some (.string b) := HR2.out.blk.cell 1
            have c2 : W2.cell? ⟨r, 2, none⟩ = some (.int .i64 i) := HR2.out.blk.cell 2
            clear hst
            have hby : ∀ (hh : i < b.size), ((b[i]'hh).toNat : Int) = (c : Int) := HBY.out
            have hn5 : (n : Int) ≤ 4294967295 := by have := HN.out.2; omega
            have hi0 : (0 : Int) ≤ (i : Int) := by omega
            go_wp2_with fail
            have k1 : W2.drew.cell? ⟨r, 1, none⟩ = some (.string b) := c1
            have k2 : W2.drew.cell? ⟨r, 2, none⟩ = some (.int .i64 i) := c2
            go_region_held3 (fun X => X.cell? ⟨r, 1, none⟩ = some (.string b) ∧ X.cell? ⟨r, 2, none⟩ = some (.int .i64 i)) (exact ⟨k1, k2⟩) (fail)
            have f2 := HR2.out.drew.blk.froz 2
            have hi2 : (i : Int) + 1 ≤ 9223372036854775807 := by omega
            go_wp2_with fail
            go_roundw
            case rel =>
              obtain ⟨p1, p2⟩ := pow_bound (by omega : j < wide) hw4 HN.out.1 HC256.out
              refine ⟨j + 1, n * 256 + c, by go_num, by rw [wrap_num HN.out.2 HC256.out], by omega, p1, p2, (HON2.out.drew.set (p := ⟨r, 2, none⟩) (.inl (by simp)) _), .inl ⟨i + 1, m.step 1, mi_next HM1.out H2.out.1 H2.out.2.1 (by rw [← HW.out]; omega) HC.out HS.out ?_, H2.out.1, H2.out.2.1, fun e _ => ?_⟩⟩
              · have h1 := HR2.out.drew
                exact ⟨h1.blk.set 2 _, h1.mt.other _ _ (Ne.symm h1.ne)⟩
              · exfalso
                have := HW.out
                rw [e] at this
                simp only [sz] at this
                omega
            case measure => simp [RowKit.intOf]; omega
        · have he1 : (b.size : Int) ≤ (i : Int) := by omega
          have he2 : i = b.size := by have := HM.out.le; omega
          have h16 : s.nx ≠ 16 := fun e => hend (H2.out.2.2 e hlt)
          have HWR := hid (wrong_any 60 b.size r mb b i 0 0 m w'.drew HR1.out)
          have HE2 := hid (And.intro he2 h16)
          go_region_held3 (fun X => X.cell? ⟨r, 1, none⟩ = some (.string b) ∧ X.cell? ⟨r, 2, none⟩ = some (.int .i64 i)) (exact ⟨k1, k2⟩) (fail)
          clear he2 h16
          go_wp2_with fail
          refine HWR.out.mono ?_
          rintro e W4 ⟨rfl, h1, h2⟩
          have HR4 := hid h1
          have HON4 : Hid (Only [r, mb] w W4) := hid (HON.out.drew.trans (h2.mono (by intro k _ h; simp at h ⊢; exact .inl h)))
          clear h1 h2
          go_wp2_with fail
          go_ret
          refine ⟨0, rfl, by decide, HON4.out, .inr ⟨⟨i, b.size, 60, m, ?_, HM.out.ok, HM.out.le, by decide, ?_⟩, rfl⟩⟩
          · have := HR4.out
            simp only [if_true] at this
            exact this
          · have h1 := HM.out.at_ (by rw [← HW.out]; omega)
            rw [HE2.out.1, List.drop_of_length_le (by rw [bl_length]; exact Nat.le_refl _), getM, if_neg (by show ¬ s.nx = 16; exact HE2.out.2)] at h1
            exact h1.symm
      · obtain rfl : j = wide := by omega
        have hlt' : ¬ (j : Int) < (j : Int) := by omega
        clear hlt
        go_wp2_with fail
        go_ret
        obtain ⟨d1, d2⟩ := HM.out.done HW.out
        refine ⟨n, rfl, HN.out.2, HON.out, .inl ⟨i, m, ⟨HM.out.rs, HM.out.ok, HM.out.le, d1, by rw [← HW.out]; exact d2, fun h14 => by rw [← HW.out]; exact HM.out.sm h14⟩⟩⟩
    · have HBD := hid hbd
      obtain ⟨i, a, e, m, hrs, hok, hle, he, hres⟩ := hbd
      have HF := hid (fine_any r mb b i e a m wr hrs)
      have hk : (e == 0) = false := by simpa using he
      rw [hk] at HF
      have hlt' : (0 : Int) < (wide : Int) := by omega
      clear hrs hok hle he hres hk
      go_wp2_with (go_at_call 38; refine HF.out.mono ?_; rintro e' w' ⟨rfl, rfl⟩)
      go_ret
      exact ⟨0, rfl, by decide, HON.out, .inr ⟨HBD.out, rfl⟩⟩
end Go.Proofs.Ytdinlaoimpoolaa
