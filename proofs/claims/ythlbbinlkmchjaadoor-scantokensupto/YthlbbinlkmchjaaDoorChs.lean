/- The cutter's characters: a text. -/
import Derived.Test.YthlbbinlkmchjaaDoorAtt
namespace Go.Proofs.YthlbbinlkmchjaaDoor
open Go.RowKit

theorem info50 : (Tryd.prog.info? 50).map (fun i => (i.zero, i.size, i.bytes)) = some (some (.agg #[.int .i64 0, .int .i64 0, .int .i64 0]), 3, 24) := by kernel_rfl
theorem Sc.apt {L : List Nat} {w0 w w' : World} {cb mb : Nat} {s : ByteArray} {p : Nat} {m : M} {xs : List (Tk × Tm)} {tv : Value} (h : Sc w0 w cb mb s p m xs tv) (ho : Only L w w') (h1 : cb ∉ L) (h2 : mb ∉ L) (h3 : ∀ b, tv.ownBlock = some b → b ∉ L) (h4 : ∀ b ∈ cbs xs, b ∉ L) (h5 : ∀ b ∈ L, w0.heap.size ≤ b) : Sc w0 w' cb mb s p m xs tv :=
  ⟨⟨ho.blk h.cu.c h1, ho.blk h.cu.mt h2, h.cu.ne, h.cu.ok, h.cu.why, h.cu.le, h.cu.sz⟩, h.tl.only ho h3 h4, h.fr.fresh ho (fun i hi hlt => by have := h5 i hi; omega), h.nw, h.len, h.tc, h.m3⟩
theorem only_grown {w w' : World} {v : Value} (k : w.grownBy w' v.ownBlock) : Only (ob v) w w' :=
  ⟨k.os, k.tape, k.output, k.size, fun b hb hn => k.block b hb (fun e => hn (mem_ob.2 e.symm))⟩
theorem Sc.grown {w0 w w' : World} {cb mb B n : Nat} {s : ByteArray} {p : Nat} {m : M} {xs : List (Tk × Tm)} {tv u : Value} {ys : List Value} (h : Sc w0 w cb mb s p m xs tv) (hu : w.ownsRow B 50 3 u n ys) (k : w.grownBy w' u.ownBlock)
    (hn : ∀ b, u.ownBlock = some b → b ∉ cbs xs ∧ w0.heap.size ≤ b) : Sc w0 w' cb mb s p m xs tv := by
  refine h.apt (only_grown k) (fun hm => ?_) (fun hm => ?_) (fun b hb hm => ?_) (fun b hb hm => ?_) (fun b hm => ?_)
  · exact row_not hu h.cu.c (by decide) (mem_ob.1 hm)
  · exact row_not hu h.cu.mt (by decide) (mem_ob.1 hm)
  · exact row_row hu h.tl.row (by decide) (mem_ob.1 hm) hb
  · exact (hn b (mem_ob.1 hm)).1 hb
  · exact (hn b (mem_ob.1 hm)).2
/-- a text's characters, the fuel put right -/
def chsP (s : ByteArray) (p : Nat) : Pz (List (Nat × Nat × Nat)) := chsK (s.size - p + 1) p
theorem fair_chsP (s : ByteArray) (p : Nat) : Fair (chsP s p) := fair_chs _ _
theorem chs_stop {s : ByteArray} {q : Nat} (h : (rest s q).head? = none ∨ (rest s q).head? = some 60) : chsP s q (rest s q) = done [] (rest s q) := by
  unfold chsP chsK look
  dsimp only
  rw [if_pos h]
theorem chs_go {s : ByteArray} {m : M} (hw : m.why = 0) {q : Nat} (h : ¬ ((rest s q).head? = none ∨ (rest s q).head? = some 60)) {m1 : M} {x q1 : Nat} (hc : fo s m q chrP = (m1, .ok (x, q1))) :
    fo s m q (chsP s q) = fo s m1 q1 (andThen (chsP s q1) fun xs _ => done ((x, q, q1) :: xs)) := by
  have h1 : fo s m q (chsP s q) = fo s m q (andThen chrP fun x n => andThen (chsK (s.size - q) (q + n)) fun xs _ => done ((x, q, q + n) :: xs)) := by
    refine fo_congr ?_
    unfold chsP
    rw [chsK]
    unfold look
    dsimp only
    rw [if_neg h]
  rw [h1, fo_then_ok hw fair_chr hc]
  obtain ⟨n, hn1, hn2, -⟩ := fin_ok hw hc
  have hn3 := goes_chr _ _ _ hn1
  have hle := ok_le fair_chr hn1
  rw [rest_length] at hle
  rw [show q + (q1 - q) = q1 by omega]
  refine fo_congr ?_
  show thenR (chsK (s.size - q) q1 (rest s q1)) _ = thenR (chsK (s.size - q1 + 1) q1 (rest s q1)) _
  rw [chs_fuel (s.size - q) (s.size - q1 + 1) q1 (rest s q1) (by rw [rest_length]; omega) (by rw [rest_length]; omega)]
theorem chs_bad {s : ByteArray} {m : M} (hw : m.why = 0) {q : Nat} (h : ¬ ((rest s q).head? = none ∨ (rest s q).head? = some 60)) {m1 : M} {F : Int × Int} (hc : fo s m q chrP = (m1, .error F)) : fo s m q (chsP s q) = (m1, .error F) := by
  have h1 : fo s m q (chsP s q) = fo s m q (andThen chrP fun x n => andThen (chsK (s.size - q) (q + n)) fun xs _ => done ((x, q, q + n) :: xs)) := by
    refine fo_congr ?_
    unfold chsP
    rw [chsK]
    unfold look
    dsimp only
    rw [if_neg h]
  rw [h1, fo_then_bad hw fair_chr hc]
theorem txt_chs {s : ByteArray} {m : M} (p : Nat) : fo s m p (txtP p) = fo s m p (andThen (chsP s p) fun xs _ => done ⟨5, p, 0, [], [], false, xs⟩) := by
  refine fo_congr ?_
  unfold txtP
  rw [rest_length]
  rfl
theorem row_base {w : World} {B B' n size : Nat} {e : TypeId} {v : Value} {xs : List Value} (h : w.ownsRow B e size v n xs) (hB : B' ≤ B) : w.ownsRow B' e size v n xs := by
  refine ⟨h.1, ?_⟩
  rcases h.2 with h2 | ⟨g, cap, cur, h1, hb, h3⟩
  · exact .inl h2
  · exact .inr ⟨g, cap, cur, h1, Nat.le_trans hB hb, h3⟩
theorem chc_one (ys : List (Nat × Nat × Nat)) : ∀ u ∈ ys.flatMap chc, u.oneCell' = true := by
  intro u hu
  simp only [List.mem_flatMap, chc] at hu
  obtain ⟨g, _, hu⟩ := hu
  simp at hu
  rcases hu with rfl | rfl | rfl <;> rfl

set_option maxRecDepth 100000 in
set_option maxHeartbeats 8000000 in
theorem characters_c {w0 w : World} {cb mb : Nat} {s : ByteArray} {p : Nat} {m : M} {xs : List (Tk × Tm)} {tv : Value} (h : Sc w0 w cb mb s p m xs tv) (hhd : ¬ ((rest s p).head? = none ∨ (rest s p).head? = some 60)) :
    Calls Tryd.prog 62 #[.pointer (some ⟨cb, 0, none⟩)] w fun e w' => PT w0 w' cb mb s xs (finT (fo s m p (txtP p))) e := by
  have HS := hid h
  have hok := h.cu.ok
  have hw := h.cu.why
  have c2 : w.cell? ⟨cb, 2, none⟩ = some (.int .i64 p) := h.cu.c.cell 2
  have hcl : ∀ b ∈ cbs xs, b < w.heap.size := fun b hb => by
    obtain ⟨x, hx, hxb⟩ := mem_cbs.1 hb
    exact (row_ge (h.tl.rel x hx).ch b hxb).2
  have HCL := hid hcl
  have hfr := hid h.fr.size
  obtain ⟨o, ho⟩ : ∃ o : O (List (Nat × Nat × Nat)), fo s m p (chsP s p) = o := ⟨_, rfl⟩
  have htx : fo s m p (txtP p) = mapO (fun ys => (⟨5, p, 0, [], [], false, ys⟩ : Tk)) o := by
    rw [txt_chs, fo_map hok hw (fair_chsP _ _) (fun ys => (⟨5, p, 0, [], [], false, ys⟩ : Tk)), ho]
  rw [htx]
  have HST : Hid (mapO (fun ys => [] ++ ys) (fo s m p (chsP s p)) = o) := by
    show mapO (fun ys => ys) (fo s m p (chsP s p)) = o
    rw [ho]
    rcases o with ⟨m1, F | ⟨x, q⟩⟩ <;> rfl
  have HHD := hid hhd
  have hszs := h.cu.sz
  obtain ⟨i50, hi50, z500, z501, z502⟩ := info_parts info50
  clear h htx ho hcl hhd
  go_enter Tryd.func62, Tryd.ntmps62
  go_wp2
  go_loopw [4] (fun r wr => ∃ (ys : List (Nat × Nat × Nat)) (q : Nat) (m' : M) (ad : Option Addr) (cap : Nat), r = .slice ad ys.length cap ∧ wr.ownsRow w.heap.size 50 3 (.slice ad ys.length cap) ys.length (ys.flatMap chc) ∧ Sc w0 wr cb mb s q m' xs tv ∧
    mapO (fun zs => ys ++ zs) (fo s m' q (chsP s q)) = o ∧ p + ys.length ≤ q ∧ (q = p → ys = []) ∧ w.heap.size ≤ wr.heap.size) (fun _ wr => s.size - (RowKit.intOf ((wr.cell? ⟨cb, 2, none⟩).getD (.int .i64 0))).toNat)
  case atStart => exact ⟨[], p, m, none, 0, rfl, World.ownsRow_nil _ _ _ _, HS.out, HST.out, by simp, fun _ => rfl, Nat.le_refl _⟩
  case round =>
    obtain ⟨ys, q, m', ad, cap, rfl, hrow, hs, hoo, hlen, hfst, hgr⟩ := hrel
    have HSK := hid hs
    have HRW := hid hrow
    have HOO := hid hoo
    have HLEN := hid hlen
    have HFST := hid hfst
    have HGR := hid hgr
    obtain ⟨k, hk⟩ : ∃ k, ys.length = k := ⟨_, rfl⟩
    have HK := hid hk
    rw [hk] at HRW ⊢
    clear hrow hs hoo hlen hfst hgr hk
    obtain ⟨b, hb⟩ : ∃ b, (rest s q).head? = b := ⟨_, rfl⟩
    obtain ⟨a, ha⟩ : ∃ a, aheadI b = a := ⟨_, rfl⟩
    have HA := hid (fun W (h : Cu W cb mb s q tv m') => (by rw [← ha, ← hb]; exact ahead_any h : Calls Tryd.prog 60 #[.pointer (some ⟨cb, 0, none⟩)] W fun e w' => e = .returned (.int .i64 a) ∧ ∃ n, w' = W.drewN n))
    have HB := hid hb
    have ways : (a = -1 ∧ b = none) ∨ (a = 60 ∧ b = some 60) ∨ (¬ a = -1 ∧ ¬ a = 60 ∧ b ≠ none ∧ b ≠ some 60) := by
      rw [← ha]
      rcases b with _ | c
      · exact .inl ⟨rfl, rfl⟩
      · simp only [aheadI]
        by_cases h1 : c = 60
        · exact .inr (.inl ⟨by omega, by rw [h1]⟩)
        · exact .inr (.inr ⟨by omega, by omega, by simp, by simpa using h1⟩)
    clear ha hb
    rcases ways with ⟨h1, hb⟩ | ⟨h1, hb⟩ | ⟨h1, h2, hb1, hb2⟩
    · subst h1
      have hfin : o = (m', .ok (ys, q)) := by
        rw [← HOO.out, show fo s m' q (chsP s q) = fo s m' q (done []) from fo_congr (chs_stop (.inl (HB.out.trans hb))), fo_done HSK.out.cu.ok HSK.out.cu.why]
        simp [mapO]
      have HFIN := hid hfin
      have hqp : p + 1 ≤ q := by
        have h1 := HLEN.out
        rcases Nat.eq_or_lt_of_le (show p ≤ q by omega) with h2 | h2
        · exfalso
          have := HHD.out
          rw [h2, HB.out, hb] at this
          exact this (.inl rfl)
        · exact h2
      have HQP := hid hqp
      clear hfin hqp hb
      rcases hh : m'.holdOk 1 with _ | _
      · have hf : finT (mapO (fun ys => (⟨5, p, 0, [], [], false, ys⟩ : Tk)) o) = (m'.hold 1, .error (21, 0)) := by
          rw [HFIN.out]; exact finT_no hh
        have HF := hid hf
        have HH := hid hh
        clear hh hf
        go_wp2_with fail
        refine (HA.out _ HSK.out.cu).mono ?_
        rintro e w1 ⟨rfl, n, rfl⟩
        have HT := hid (token_s (HSK.out.still (only_drewN _ n)) ⟨5, p, 0, [], [], false, ys⟩ ⟨⟨#[]⟩, ⟨#[]⟩, .slice ad k cap⟩ rfl rfl (row_base (row_only (by have := HRW.out; rw [← HK.out] at this ⊢; exact this) (only_drewN _ _) (by simp)) hfr.out) (fun b hb hm => by have h1 := (row_ge HRW.out b hb).1; have h2 := HCL.out b hm; omega) (by have := HS.out.len; have := HQP.out; omega) 0)
        go_wp2_with fail
        refine HT.out.mono ?_
        rintro e w2 ⟨-, h2⟩
        obtain ⟨rfl, hx, ho⟩ := h2 HH.out
        go_wp2
        go_ret
        rw [HF.out]
        exact ⟨rfl, hx, ho⟩
      · have hf : finT (mapO (fun ys => (⟨5, p, 0, [], [], false, ys⟩ : Tk)) o) = (m'.hold 1, .ok (⟨5, p, q, [], [], false, ys⟩, q)) := by
          rw [HFIN.out]; exact finT_yes hh
        have HF := hid hf
        have HH := hid hh
        clear hh hf
        go_wp2_with fail
        refine (HA.out _ HSK.out.cu).mono ?_
        rintro e w1 ⟨rfl, n, rfl⟩
        have HT := hid (token_s (HSK.out.still (only_drewN _ n)) ⟨5, p, 0, [], [], false, ys⟩ ⟨⟨#[]⟩, ⟨#[]⟩, .slice ad k cap⟩ rfl rfl (row_base (row_only (by have := HRW.out; rw [← HK.out] at this ⊢; exact this) (only_drewN _ _) (by simp)) hfr.out) (fun b hb hm => by have h1 := (row_ge HRW.out b hb).1; have h2 := HCL.out b hm; omega) (by have := HS.out.len; have := HQP.out; omega) 0)
        go_wp2_with fail
        refine HT.out.mono ?_
        rintro e w2 ⟨h1, -⟩
        obtain ⟨rfl, tv', hx⟩ := h1 HH.out
        go_wp2
        go_ret
        rw [HF.out]
        exact ⟨rfl, _, tv', hx⟩
    · subst h1
      have hfin : o = (m', .ok (ys, q)) := by
        rw [← HOO.out, show fo s m' q (chsP s q) = fo s m' q (done []) from fo_congr (chs_stop (.inr (HB.out.trans hb))), fo_done HSK.out.cu.ok HSK.out.cu.why]
        simp [mapO]
      have HFIN := hid hfin
      have hqp : p + 1 ≤ q := by
        have h1 := HLEN.out
        rcases Nat.eq_or_lt_of_le (show p ≤ q by omega) with h2 | h2
        · exfalso
          have := HHD.out
          rw [h2, HB.out, hb] at this
          exact this (.inr rfl)
        · exact h2
      have HQP := hid hqp
      clear hfin hqp hb
      rcases hh : m'.holdOk 1 with _ | _
      · have hf : finT (mapO (fun ys => (⟨5, p, 0, [], [], false, ys⟩ : Tk)) o) = (m'.hold 1, .error (21, 0)) := by
          rw [HFIN.out]; exact finT_no hh
        have HF := hid hf
        have HH := hid hh
        clear hh hf
        go_wp2_with fail
        refine (HA.out _ HSK.out.cu).mono ?_
        rintro e w1 ⟨rfl, n, rfl⟩
        go_wp2_with fail
        refine (HA.out _ (HSK.out.cu.drewN n)).mono ?_
        rintro e w1 ⟨rfl, n2, rfl⟩
        rw [drewN_two]
        have HT := hid (token_s (HSK.out.still (only_drewN _ (n + n2))) ⟨5, p, 0, [], [], false, ys⟩ ⟨⟨#[]⟩, ⟨#[]⟩, .slice ad k cap⟩ rfl rfl (row_base (row_only (by have := HRW.out; rw [← HK.out] at this ⊢; exact this) (only_drewN _ _) (by simp)) hfr.out) (fun b hb hm => by have h1 := (row_ge HRW.out b hb).1; have h2 := HCL.out b hm; omega) (by have := HS.out.len; have := HQP.out; omega) 0)
        go_wp2_with fail
        refine HT.out.mono ?_
        rintro e w2 ⟨-, h2⟩
        obtain ⟨rfl, hx, ho⟩ := h2 HH.out
        go_wp2
        go_ret
        rw [HF.out]
        exact ⟨rfl, hx, ho⟩
      · have hf : finT (mapO (fun ys => (⟨5, p, 0, [], [], false, ys⟩ : Tk)) o) = (m'.hold 1, .ok (⟨5, p, q, [], [], false, ys⟩, q)) := by
          rw [HFIN.out]; exact finT_yes hh
        have HF := hid hf
        have HH := hid hh
        clear hh hf
        go_wp2_with fail
        refine (HA.out _ HSK.out.cu).mono ?_
        rintro e w1 ⟨rfl, n, rfl⟩
        go_wp2_with fail
        refine (HA.out _ (HSK.out.cu.drewN n)).mono ?_
        rintro e w1 ⟨rfl, n2, rfl⟩
        rw [drewN_two]
        have HT := hid (token_s (HSK.out.still (only_drewN _ (n + n2))) ⟨5, p, 0, [], [], false, ys⟩ ⟨⟨#[]⟩, ⟨#[]⟩, .slice ad k cap⟩ rfl rfl (row_base (row_only (by have := HRW.out; rw [← HK.out] at this ⊢; exact this) (only_drewN _ _) (by simp)) hfr.out) (fun b hb hm => by have h1 := (row_ge HRW.out b hb).1; have h2 := HCL.out b hm; omega) (by have := HS.out.len; have := HQP.out; omega) 0)
        go_wp2_with fail
        refine HT.out.mono ?_
        rintro e w2 ⟨h1, -⟩
        obtain ⟨rfl, tv', hx⟩ := h1 HH.out
        go_wp2
        go_ret
        rw [HF.out]
        exact ⟨rfl, _, tv', hx⟩
    · have hn1 : (a != -1) = true := by simpa using h1
      have hn2 : (a != 60) = true := by simpa using h2
      have hno : ¬ ((rest s q).head? = none ∨ (rest s q).head? = some 60) := by
        rw [HB.out]; rintro (h | h)
        · exact hb1 h
        · exact hb2 h
      have HNO := hid hno
      have hp : q < s.size := by
        rcases HSK.out.cu.nil_or with ⟨h, _⟩ | ⟨_, h⟩
        · exact h
        · exact absurd (.inl (by rw [h]; rfl)) hno
      have HCH := hid (fun n => character_c (HSK.out.cu.drewN n) (HSK.out.tcw.drewN n) HSK.out.b3 hp)
      clear hno hb1 hb2
      rcases hch : fo s m' q chrP with ⟨m1, F | ⟨x, q1⟩⟩
      · have hf : finT (mapO (fun ys => (⟨5, p, 0, [], [], false, ys⟩ : Tk)) o) = (m1, .error F) := by
          rw [← HOO.out, chs_bad HSK.out.cu.why HNO.out hch]; rfl
        have HF := hid hf
        rw [hch] at HCH
        clear hf hch
        go_wp2_with fail
        refine (HA.out _ HSK.out.cu).mono ?_
        rintro e w1 ⟨rfl, n, rfl⟩
        go_wp2_with fail
        refine (HA.out _ (HSK.out.cu.drewN n)).mono ?_
        rintro e w1 ⟨rfl, n2, rfl⟩
        rw [drewN_two]
        go_wp2_with fail
        refine (HCH.out _).mono ?_
        rintro e w1 ⟨⟨⟨z, rfl, i, a1, b1, rfl⟩, hx⟩, hol⟩
        unfold chV
        go_wp2
        go_ret
        rw [HF.out]
        obtain ⟨p', v', hcb⟩ := hx.c
        exact ⟨rfl, ⟨⟨p', v', hcb.alloc _⟩, hx.mt.alloc _, hx.ok⟩, ((HSK.out.still (only_drewN _ _)).off hol).alloc _⟩
      · have hgt := fo_gt HSK.out.cu.why goes_chr hch
        have hok1 := fo_mok HSK.out.cu.ok hch
        have hw1 := fo_why HSK.out.cu.why hch
        have hst2 : mapO (fun zs => (ys ++ [(x, q, q1)]) ++ zs) (fo s m1 q1 (chsP s q1)) = o := by
          rw [← HOO.out, chs_go HSK.out.cu.why HNO.out hch, fo_map hok1 hw1 (fair_chsP _ _) (fun zs => (x, q, q1) :: zs), mapO_map]
          congr 1
          funext zs
          simp
        have HST2 := hid hst2
        have HGT := hid hgt
        rw [hch] at HCH
        clear hst2 hch hgt hok1 hw1
        go_wp2_with fail
        refine (HA.out _ HSK.out.cu).mono ?_
        rintro e w1 ⟨rfl, n, rfl⟩
        go_wp2_with fail
        refine (HA.out _ (HSK.out.cu.drewN n)).mono ?_
        rintro e w1 ⟨rfl, n2, rfl⟩
        rw [drewN_two]
        go_wp2_with fail
        refine (HCH.out _).mono ?_
        rintro e w1 ⟨⟨⟨z, rfl, rfl⟩, hx⟩, hol⟩
        have hk2 := HLEN.out
        have hge := row_ge HRW.out
        have HS1 := hid (((HSK.out.still (only_drewN _ _)).on hx hol (by simp only; have := HGT.out; omega)).still ((Only.refl [] w1).alloc (.cells #[.int .i64 x, .int .i64 q, .int .i64 q1] 50)))
        have hrow1 := row_only HRW.out (Only.behind (only_drewN wr (n + n2)) hol) (by
          intro b hb hm
          have h1 := hge b hb
          have h2 := HS.out.cu.c.lt
          have h3 := HS.out.cu.mt.lt
          simp at hm; omega)
        have HR1 := hid (row_only hrow1 ((Only.refl [] w1).alloc (.cells #[.int .i64 x, .int .i64 q, .int .i64 q1] 50)) (by simp))
        have hgw : w.heap.size ≤ w1.heap.size := by have h1 := HGR.out; have h2 := hol.size; have h3 := (only_drewN wr (n + n2)).size; omega
        have HGE := hid hge
        have hkb : k ≤ 4294967296 := by have := HK.out; have := HSK.out.cu.le; omega
        have HGW := hid hgw
        clear hx hol hrow1 hge hgw
        have ha1 : k + 1 ≤ maxLen := by unfold maxLen; omega
        have ha2 : (k + 1) * 24 ≤ 140737488355328 := by omega
        have hone := chc_one [(x, q, q1)]
        unfold chV
        go_wp2_with (at_builtin; refine wpList_append_sl _ rfl _ _ 44 rfl w.heap.size 50 i50 _ 3 24 Tryd.underlying44 hi50 z500 z501 z502 rfl (by decide) (.slice ad k cap) k (ys.flatMap chc) (by rfl) ?qc1 (some ⟨w1.heap.size + 1, 0, none⟩) 1 1 (chc (x, q, q1)) (by rfl) (by rfl) ?qc2 ?qc3 ha1 ha2 ?qc4 ?_)
        case qc1 => exact row_only HR1.out ((Only.refl [] _).alloc _) (by simp)
        case qc2 => exact sl_newest (w1.alloc (.cells #[.int .i64 x, .int .i64 q, .int .i64 q1] 50)) (chc (x, q, q1)) 50 (by simp)
        case qc3 => simpa using hone
        case qc4 => have := HGW.out; simp; omega
        intro v' w6 hown hgrew
        obtain ⟨ad', cap', rfl, -, -⟩ := row_reads hown
        have hs6 := (HS1.out.still ((Only.refl [] _).alloc (.cells #[.int .i64 x, .int .i64 q, .int .i64 q1] 50))).grown (row_only HR1.out ((Only.refl [] _).alloc _) (by simp)) hgrew.grown (fun b hb => by
          have h1 := (HGE.out b hb).1
          refine ⟨fun hm => ?_, ?_⟩
          · have := HCL.out b hm; omega
          · have := hfr.out; omega)
        have hsz6 : w.heap.size ≤ w6.heap.size := by
          have h1 := hgrew.grown.size
          have h2 := HGW.out
          simp at h1; omega
        have HS6 := hid hs6
        have HR6 := hid hown
        clear hs6 hown hgrew
        go_wp2
        go_roundw
        case rel =>
          refine ⟨ys ++ [(x, q, q1)], q1, m1, ad', cap', ?_, ?_, HS6.out, HST2.out, ?_, ?_, hsz6⟩
          · rw [List.length_append, HK.out]; rfl
          · rw [List.length_append, HK.out, List.flatMap_append]
            have := HR6.out
            simpa using this
          · have h1 := HLEN.out; have h2 := HGT.out; rw [List.length_append]; simp; omega
          · intro e; have h1 := HLEN.out; have h2 := HGT.out; omega
        case measure =>
          have e1 := HS6.out.cu.c.cell 2
          have e2 := HSK.out.cu.c.cell 2
          have h2 := HGT.out
          have h3 := HS6.out.cu.le
          rw [e1, e2]
          simp [ccells, RowKit.intOf]
          omega
end Go.Proofs.YthlbbinlkmchjaaDoor
