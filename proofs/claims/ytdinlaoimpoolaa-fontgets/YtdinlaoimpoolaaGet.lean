/- Get: byte by byte, on a meter. -/
import Derived.Test.YtdinlaoimpoolaaSettleAll
import Derived.Test.YtdinlaoimpoolaaKept
namespace Go.Proofs.Ytdinlaoimpoolaa
open Go.RowKit

theorem bad_ne (s : St) : ((bad s) != 0) = true := by unfold bad; split <;> rfl
theorem row_base {w : World} {base base' size n : Nat} {e : TypeId} {v : Value} {xs : List Value} (h : w.ownsRow base e size v n xs) (hb : base' ≤ base) : w.ownsRow base' e size v n xs := by
  refine ⟨h.1, ?_⟩
  rcases h.2 with h0 | ⟨g, cap, cur, rfl, hg, h2⟩
  · exact .inl h0
  · exact .inr ⟨g, cap, cur, rfl, by omega, h2⟩
set_option maxHeartbeats 400000 in
theorem newReader_any (w : World) : Calls Try.prog 31 #[] w fun e w' => e = .returned (.pointer (some ⟨w.heap.size, 0, none⟩)) ∧ w' = w.alloc (.cells (rcells st0 (.slice none 0 0) (.slice none 0 0) (.pointer none)).toArray 81) := by
  go_enter Try.func31, Try.ntmps31
  go_wp2
  go_ret
  exact ⟨rfl, rfl⟩
theorem rd0 (w : World) {k : Nat} (hk : w.heap.size = k) : Rd k k (w.alloc (.cells (rcells st0 (.slice none 0 0) (.slice none 0 0) (.pointer none)).toArray 81)) k st0 (.slice none 0 0) (.slice none 0 0) (.pointer none) (10 ≤ st0.nx) :=
  ⟨Blk.new w _ 81 hk, Nat.le_refl _, ⟨Nat.le_refl _, by simp; omega⟩, World.ownsRow_nil _ _ _ _, World.ownsRow_nil _ _ _ _, fun _ => rfl, fun t => absurd t (by decide)⟩
/-- what Get answers and leaves -/
def Got (w : World) (mb : Nat) (res : M × ((Int × Nat) ⊕ St)) (e : Ending) (w' : World) : Prop :=
  Only [mb] w w' ∧ Blk w' mb res.1.cells 72 ∧ (match res.2 with
    | .inl x => e = .returned (.tuple #[.agg #[.int .i64 0, .slice none 0 0, .slice none 0 0], .agg #[.int .i64 x.1, .int .i64 x.2]])
    | .inr s => ∃ gv pv, e = .returned (.tuple #[.agg #[.int .i64 s.em, gv, pv], .agg #[.int .i64 0, .int .i64 0]]) ∧ w'.ownsRow w.heap.size 33 4 gv s.gs.length (s.gs.flatMap cg) ∧ w'.ownsRow w.heap.size 35 5 pv s.ps.length (s.ps.flatMap cp))
/-- while Get reads -/
structure At6 (w : World) (h mb : Nat) (bs : List Nat) (res : M × ((Int × Nat) ⊕ St)) (i : Nat) (m : M) (st : St) (bp : Nat) (gv pv tv : Value) (W : World) : Prop where
  le : i ≤ bs.length
  ok : m.Ok
  mt : Blk W mb m.cells 72
  rd : Rd (h + 1 + 1) bp W (h + 1 + 1) st gv pv tv (10 ≤ st.nx)
  gd : Good st
  nm : Num st
  za : Blk W h [.int .i64 0, .slice none 0 0, .slice none 0 0] 25
  zb : Blk W (h + 1) [.int .i64 0, .int .i64 0] 44
  on : Only [mb] w W
  eq : getM m st i (bs.drop i) = res

theorem results15 {W : World} {h : Nat} {a b c x y : Value} (hA : Blk W h [a, b, c] 25) (hB : Blk W (h + 1) [x, y] 44) {tmps : Array Value} (h4 : tmps[4]? = some (.pointer (some ⟨h, 0, none⟩))) (h5 : tmps[5]? = some (.pointer (some ⟨h + 1, 0, none⟩))) :
    (results Try.f15 tmps).run Try.prog W = .ok (.tuple #[.agg #[a, b, c], .agg #[x, y]]) W := by
  have m0 : W.cell? ⟨h, 0, none⟩ = some a := hA.cell 0
  have m1 : W.cell? ⟨h, 1, none⟩ = some b := hA.cell 1
  have m2 : W.cell? ⟨h, 2, none⟩ = some c := hA.cell 2
  have n0 : W.cell? ⟨h + 1, 0, none⟩ = some x := hB.cell 0
  have n1 : W.cell? ⟨h + 1, 1, none⟩ = some y := hB.cell 1
  simp [results, Try.results15, go_sem, h4, h5, m0, m1, m2, n0, n1]
/-- the answer laid -/
abbrev putR (W : World) (h : Nat) (a b c x y : Value) : World := ((((W.setCell ⟨h, 0, none⟩ a).setCell ⟨h, 1, none⟩ b).setCell ⟨h, 2, none⟩ c).setCell ⟨h + 1, 0, none⟩ x).setCell ⟨h + 1, 1, none⟩ y
theorem putR_all {w W : World} {h mb : Nat} {p q u v z : Value} (hh : w.heap.size = h) (hA : Blk W h [p, q, u] 25) (hB : Blk W (h + 1) [v, z] 44) (hO : Only [mb] w W) {xs : List Value} (hM : Blk W mb xs 72) (hmb : mb < h) (a b c x y : Value) :
    Blk (putR W h a b c x y) h [a, b, c] 25 ∧ Blk (putR W h a b c x y) (h + 1) [x, y] 44 ∧ Only [mb] w (putR W h a b c x y) ∧ Blk (putR W h a b c x y) mb xs 72 ∧ Only [h, h + 1] W (putR W h a b c x y) :=
  ⟨((((hA.set 0 a).set 1 b).set 2 c).other _ x (by simp)).other _ y (by simp), ((((hB.other _ a (by simp)).other _ b (by simp)).other _ c (by simp)).set 0 x).set 1 y,
   ((((hO.set (p := ⟨h, 0, none⟩) (.inr (by simp; omega)) a).set (p := ⟨h, 1, none⟩) (.inr (by simp; omega)) b).set (p := ⟨h, 2, none⟩) (.inr (by simp; omega)) c).set (p := ⟨h + 1, 0, none⟩) (.inr (by simp; omega)) x).set (p := ⟨h + 1, 1, none⟩) (.inr (by simp; omega)) y,
   ((((hM.other _ a (by simp; omega)).other _ b (by simp; omega)).other _ c (by simp; omega)).other _ x (by simp; omega)).other _ y (by simp; omega),
   (((((Only.refl _ W).set (p := ⟨h, 0, none⟩) (.inl (by simp)) a).set (p := ⟨h, 1, none⟩) (.inl (by simp)) b).set (p := ⟨h, 2, none⟩) (.inl (by simp)) c).set (p := ⟨h + 1, 0, none⟩) (.inl (by simp)) x).set (p := ⟨h + 1, 1, none⟩) (.inl (by simp)) y⟩
theorem row_keep2 {L : List Nat} {W W' : World} {base size n : Nat} {e : TypeId} {v : Value} {xs : List Value} (h : W.ownsRow base e size v n xs) (k : Only L W W') (hn : ∀ b, v.ownBlock = some b → b ∉ L) : W'.ownsRow base e size v n xs := by
  refine ⟨h.1, ?_⟩
  rcases h.2 with h0 | ⟨g, cap, cur, rfl, hb, hh, h2⟩
  · exact .inl h0
  · have hlt : g < W.heap.size := by
      rcases Nat.lt_or_ge g W.heap.size with q | q
      · exact q
      · rw [Array.getElem?_eq_none q] at hh; cases hh
    exact .inr ⟨g, cap, cur, rfl, hb, (k.block g hlt (hn g rfl)).trans hh, h2⟩
/-- while Get holds -/
structure Hold6 (w : World) (h mb : Nat) (res : M × ((Int × Nat) ⊕ St)) (k : Nat) (m : M) (st : St) (gv pv : Value) (bp : Nat) (tv : Value) (W : World) : Prop where
  ok : m.Ok
  mt : Blk W mb m.cells 72
  rd : Rd (h + 1 + 1) bp W (h + 1 + 1) st gv pv tv (10 ≤ st.nx)
  za : Blk W h [.int .i64 0, .slice none 0 0, .slice none 0 0] 25
  zb : Blk W (h + 1) [.int .i64 0, .int .i64 0] 44
  on : Only [mb] w W
  eq : holdN (st.gs.length + st.ps.length - k) m st = res
theorem Hold6.drew {w : World} {h mb k bp : Nat} {res : M × ((Int × Nat) ⊕ St)} {m : M} {st : St} {gv pv tv : Value} {W : World} (H : Hold6 w h mb res k m st gv pv bp tv W) : Hold6 w h mb res k m st gv pv bp tv W.drew :=
  ⟨H.ok, H.mt.drew, H.rd.below (Below.refl _ _).drew, H.za.drew, H.zb.drew, H.on.drew, H.eq⟩

set_option maxRecDepth 100000 in
set_option maxHeartbeats 8000000 in
theorem get_any (s : ByteArray) (m : M) (mb : Nat) (w : World) (hm : m.Ok) (hM : Blk w mb m.cells 72) (hsz : s.size ≤ 9223372036854775807) :
    Calls Try.prog 15 #[.pointer (some ⟨mb, 0, none⟩), .string s] w (Got w mb (getM m st0 0 (bl s))) := by
  obtain ⟨h, hh⟩ : ∃ h, w.heap.size = h := ⟨_, rfl⟩
  obtain ⟨res, hres⟩ : ∃ res, getM m st0 0 (bl s) = res := ⟨_, rfl⟩
  rw [hres]
  have H0 : Hid (At6 w h mb (bl s) res 0 m st0 (h + 1 + 1) (.slice none 0 0) (.slice none 0 0) (.pointer none) (((w.alloc (.cells #[.int .i64 0, .slice none 0 0, .slice none 0 0] 25)).alloc (.cells #[.int .i64 0, .int .i64 0] 44)).alloc (.cells (rcells st0 (.slice none 0 0) (.slice none 0 0) (.pointer none)).toArray 81))) := hid
    ⟨Nat.zero_le _, hm, ((hM.alloc _).alloc _).alloc _, rd0 _ (by simp [hh]), good0.1, good0.2, ((Blk.new w _ 25 hh).alloc _).alloc _, (Blk.new (w.alloc _) _ 44 (by simp [hh])).alloc _, (((Only.refl _ w).alloc _).alloc _).alloc _, by rw [List.drop_zero]; exact hres⟩
  have HH := hid hh
  have HNR := hid newReader_any
  have HMB : Hid (mb < w.heap.size) := hid hM.lt
  clear hres hm hM
  go_enter Try.func15, Try.ntmps15
  go_wp2_with fail
  go_step3
  go_wp2_with (go_at_call 31; refine (HNR.out _).mono ?_; rintro e w' ⟨rfl, rfl⟩)
  go_step3
  go_wp2_with fail
  obtain ⟨W0, hW0⟩ : ∃ W0, ((w.alloc (.cells #[.int .i64 0, .slice none 0 0, .slice none 0 0] 25)).alloc (.cells #[.int .i64 0, .int .i64 0] 44)).alloc (.cells (rcells st0 (.slice none 0 0) (.slice none 0 0) (.pointer none)).toArray 81) = W0 := ⟨_, rfl⟩
  rw [hW0] at H0 ⊢
  clear hW0 HNR
  clear hh
  go_loopw [7] (fun vi wr => ∃ (i : Nat) (m' : M) (st : St) (bp : Nat) (gv pv tv : Value), vi = .int .i64 i ∧ At6 w h mb (bl s) res i m' st bp gv pv tv wr) (fun vi _ => s.size - (RowKit.intOf vi).toNat)
  case atStart => exact ⟨0, m, st0, _, _, _, _, rfl, H0.out⟩
  case round =>
    obtain ⟨i, m', st, bp, gv, pv, tv, rfl, hA⟩ := hrel
    have HA := hid hA
    have HM : Hid (mb < h) := hid (by
      have h1 : mb < w.heap.size := HMB.out
      have := HH.out; omega)
    have c0 : wr.cell? ⟨h + 1 + 1, 0, none⟩ = some (.int .i64 st.nx) := hA.rd.blk.cell 0
    have hle := hA.le
    rw [bl_length] at hle
    have z0 : wr.cell? ⟨h, 0, none⟩ = some (.int .i64 0) := hA.za.cell 0
    have z1 : wr.cell? ⟨h, 1, none⟩ = some (.slice none 0 0) := hA.za.cell 1
    have z2 : wr.cell? ⟨h, 2, none⟩ = some (.slice none 0 0) := hA.za.cell 2
    have y0 : wr.cell? ⟨h + 1, 0, none⟩ = some (.int .i64 0) := hA.zb.cell 0
    have y1 : wr.cell? ⟨h + 1, 1, none⟩ = some (.int .i64 0) := hA.zb.cell 1
    have fa0 := hA.za.froz 0
    have fa1 := hA.za.froz 1
    have fa2 := hA.za.froz 2
    have fb0 := hA.zb.froz 0
    have fb1 := hA.zb.froz 1
    clear hA H0
    by_cases hi : i = s.size
    · have hd : (bl s).drop i = [] := List.drop_eq_nil_of_le (by rw [bl_length]; omega)
      by_cases h16 : st.nx = 16
      · have HE : Hid (holdN (st.gs.length + st.ps.length) m' st = res) := hid (by
          have := HA.out.eq
          rw [hd, getM, if_pos h16] at this
          exact this)
        have HHO : Hid (Hold6 w h mb res 0 m' st gv pv bp tv wr) := hid ⟨HA.out.ok, HA.out.mt, HA.out.rd, HA.out.za, HA.out.zb, HA.out.on, by rw [Nat.sub_zero]; exact HE.out⟩
        have HGD := hid HA.out.gd
        have H16 := hid h16
        have e1 : ((i : Int) == (s.size : Int)) = true := by rw [hi]; exact beq_self_eq_true _
        rw [h16] at c0
        clear hd h16 hi hle z0 z1 z2 y0 y1 fa0 fa1 fa2 fb0 fb1 HA HE
        obtain ⟨ag, ca, rfl, _, _⟩ := row_reads HHO.out.rd.gr
        obtain ⟨ap, cb, rfl, _, _⟩ := row_reads HHO.out.rd.pr
        have c5 : wr.cell? ⟨h + 1 + 1, 5, none⟩ = some (.slice ag st.gs.length ca) := HHO.out.rd.blk.cell 5
        have c6 : wr.cell? ⟨h + 1 + 1, 6, none⟩ = some (.slice ap st.ps.length cb) := HHO.out.rd.blk.cell 6
        have l1 : (st.gs.length : Int) ≤ 1024 := by have := HGD.out.ge (by rw [H16.out]; decide); have := HGD.out.ng (by rw [H16.out]; decide); omega
        have l2 : (st.ps.length : Int) ≤ 4096 := by have := HGD.out.pe (by rw [H16.out]; decide); have := HGD.out.np (by rw [H16.out]; decide); omega
        go_wp2_with fail
        go_region
        go_wp2_with fail
        have HHD := hid HHO.out.drew
        obtain ⟨W5, hW5⟩ : ∃ W5, wr.drew = W5 := ⟨_, rfl⟩
        rw [hW5] at HHD ⊢
        clear hW5 HHO c5 c6 c0 e1
        go_loopw [64] (fun vi w2 => ∃ (k : Nat) (m2 : M), vi = .int .i64 k ∧ k ≤ st.gs.length + st.ps.length ∧ Hold6 w h mb res k m2 st (.slice ag st.gs.length ca) (.slice ap st.ps.length cb) bp tv w2) (fun vi _ => st.gs.length + st.ps.length - (RowKit.intOf vi).toNat)
        case atStart => exact ⟨0, m', rfl, Nat.zero_le _, HHD.out⟩
        case round =>
          obtain ⟨k, m2, rfl, hk, hO⟩ := hrel
          have HO := hid hO
          clear hO HHD
          by_cases hlt : k < st.gs.length + st.ps.length
          · have hkl : (k : Int) < (st.gs.length : Int) + (st.ps.length : Int) := by omega
            have HC := hid (hold_any m2 HO.out.ok mb 1 wr HO.out.mt)
            have HRF := hid (fun X => refused_any (m2.hold 1) mb X)
            have HMO := hid (M.hold_ok HO.out.ok 1)
            have HE : Hid ((if m2.holdOk 1 = true then holdN (st.gs.length + st.ps.length - (k + 1)) (m2.hold 1) st else (m2.hold 1, .inl ((m2.hold 1).why, 0))) = res) := hid (by
              have := HO.out.eq
              rw [show st.gs.length + st.ps.length - k = (st.gs.length + st.ps.length - (k + 1)) + 1 by omega, holdN] at this
              exact this)
            clear hlt
            obtain ⟨b, hb⟩ : ∃ b, m2.holdOk 1 = b := ⟨_, rfl⟩
            rw [hb] at HC HE
            clear hb
            go_wp2_with fail
            refine HC.out.mono ?_
            rintro e w3 ⟨rfl, hm3, ho3⟩
            have HM3 := hid hm3
            have HA3 := hid (ho3.blk HO.out.za (by have := HM.out; simp; omega))
            have HB3 := hid (ho3.blk HO.out.zb (by have := HM.out; simp; omega))
            have HO3 := hid (HO.out.on.trans ho3)
            have HR3 := hid (HO.out.rd.apart ho3 (by have := HM.out; omega))
            clear hm3 ho3
            have z0 : w3.cell? ⟨h, 0, none⟩ = some (.int .i64 0) := HA3.out.cell 0
            have z1 : w3.cell? ⟨h, 1, none⟩ = some (.slice none 0 0) := HA3.out.cell 1
            have z2 : w3.cell? ⟨h, 2, none⟩ = some (.slice none 0 0) := HA3.out.cell 2
            have y0 : w3.cell? ⟨h + 1, 0, none⟩ = some (.int .i64 0) := HB3.out.cell 0
            have y1 : w3.cell? ⟨h + 1, 1, none⟩ = some (.int .i64 0) := HB3.out.cell 1
            have fa0 := HA3.out.froz 0
            have fa1 := HA3.out.froz 1
            have fa2 := HA3.out.froz 2
            have fb0 := HB3.out.froz 0
            have fb1 := HB3.out.froz 1
            cases b with
            | false =>
              go_wp2_with (go_at_call 33; refine (HRF.out _ HM3.out).mono ?_; rintro e w4 ⟨rfl, rfl⟩)
              try rw [Exit.noGoto_ret]
              obtain ⟨p1, p2, p3, p4, _⟩ := putR_all HH.out HA3.out HB3.out HO3.out HM3.out HM.out (.int .i64 0) (.slice none 0 0) (.slice none 0 0) (.int .i64 (m2.hold 1).why) (.int .i64 0)
              refine bodyPost_ret (results15 p1 p2 rfl rfl) rfl ?_
              rw [← HE.out]
              exact ⟨p3, p4, rfl⟩
            | true =>
              go_wp2_with fail
              refine ⟨⟨k + 1, m2.hold 1, by go_num, by omega, HMO.out, HM3.out, HR3.out, HA3.out, HB3.out, HO3.out, ?_⟩, ?_⟩
              · rw [← HE.out]
                simp
              · simp [RowKit.intOf]; omega
          · have hkl : ¬ (k : Int) < (st.gs.length : Int) + (st.ps.length : Int) := by omega
            have HE : Hid ((m2, .inr st) = res) := hid (by
              have := HO.out.eq
              rw [show st.gs.length + st.ps.length - k = 0 by omega, holdN] at this
              exact this)
            have z0 : wr.cell? ⟨h, 0, none⟩ = some (.int .i64 0) := HO.out.za.cell 0
            have z1 : wr.cell? ⟨h, 1, none⟩ = some (.slice none 0 0) := HO.out.za.cell 1
            have z2 : wr.cell? ⟨h, 2, none⟩ = some (.slice none 0 0) := HO.out.za.cell 2
            have y0 : wr.cell? ⟨h + 1, 0, none⟩ = some (.int .i64 0) := HO.out.zb.cell 0
            have y1 : wr.cell? ⟨h + 1, 1, none⟩ = some (.int .i64 0) := HO.out.zb.cell 1
            have fa0 := HO.out.za.froz 0
            have fa1 := HO.out.za.froz 1
            have fa2 := HO.out.za.froz 2
            have fb0 := HO.out.zb.froz 0
            have fb1 := HO.out.zb.froz 1
            have d4 : wr.cell? ⟨h + 1 + 1, 4, none⟩ = some (.int .i64 st.em) := HO.out.rd.blk.cell 4
            have d5 : wr.cell? ⟨h + 1 + 1, 5, none⟩ = some (.slice ag st.gs.length ca) := HO.out.rd.blk.cell 5
            have d6 : wr.cell? ⟨h + 1 + 1, 6, none⟩ = some (.slice ap st.ps.length cb) := HO.out.rd.blk.cell 6
            clear hlt
            go_wp2_with fail
            try rw [Exit.noGoto_ret]
            obtain ⟨p1, p2, p3, p4, p5⟩ := putR_all HH.out HO.out.za HO.out.zb HO.out.on HO.out.mt HM.out (.int .i64 st.em) (.slice ag st.gs.length ca) (.slice ap st.ps.length cb) (.int .i64 0) (.int .i64 0)
            have q1 := HO.out.rd.gr
            have q2 := row_base HO.out.rd.pr HO.out.rd.hb.1
            have q3 := HH.out
            refine bodyPost_ret (results15 p1 p2 rfl rfl) rfl ?_
            rw [← HE.out]
            refine ⟨p3, p4, _, _, rfl, ?_, ?_⟩
            · exact row_base (row_keep2 q1 p5 (fun b e => by have := (q1.lt b e).1; simp; omega)) (by omega)
            · exact row_base (row_keep2 q2 p5 (fun b e => by have := (q2.lt b e).1; simp; omega)) (by omega)
      · have HE : Hid ((m', .inl (60, i)) = res) := hid (by
          have := HA.out.eq
          rw [hd, getM, if_neg h16] at this
          exact this)
        have e1 : ((i : Int) == (s.size : Int)) = true := by rw [hi]; exact beq_self_eq_true _
        have e2 : ((st.nx : Int) == 16) = false := by simp; omega
        clear hd h16 hi hle
        go_wp2_with fail
        try rw [Exit.noGoto_ret]
        obtain ⟨p1, p2, p3, p4, _⟩ := putR_all HH.out HA.out.za HA.out.zb HA.out.on HA.out.mt HM.out (.int .i64 0) (.slice none 0 0) (.slice none 0 0) (.int .i64 60) (.int .i64 i)
        refine bodyPost_ret (results15 p1 p2 rfl rfl) rfl ?_
        rw [← HE.out]
        exact ⟨p3, p4, rfl⟩
    · have hlt : i < s.size := by omega
      obtain ⟨c, hcd⟩ : ∃ c, (s[i]'hlt).toNat = c := ⟨_, rfl⟩
      have hc : c < 256 := by rw [← hcd]; exact UInt8.toNat_lt _
      have HD : Hid ((bl s).drop i = c :: (bl s).drop (i + 1)) := hid (drop_at (by rw [bl_at s i hlt, hcd]))
      have HC := hid hc
      have HCD := hid hcd
      have HLT := hid hlt
      have e1 : ((i : Int) == (s.size : Int)) = false := by simp; omega
      have hli : (i : Int) < (s.size : Int) := by omega
      have HST := hid (step_any m' HA.out.ok mb 1 wr HA.out.mt)
      have HRF := hid (fun X => refused_any (m'.step 1) mb X)
      have HE : Hid ((if m'.stepOk 1 = true then (match tk st c with
          | none => (m'.step 1, .inl (bad st, i))
          | some s' => getM (m'.step 1) s' (i + 1) ((bl s).drop (i + 1))) else (m'.step 1, .inl ((m'.step 1).why, 0))) = res) := hid (by
        have := HA.out.eq
        rw [HD.out, getM] at this
        exact this)
      clear hi hle z0 z1 z2 y0 y1 fa0 fa1 fa2 fb0 fb1 hc hcd HD
      obtain ⟨b, hb⟩ : ∃ b, m'.stepOk 1 = b := ⟨_, rfl⟩
      rw [hb] at HST HE
      clear hb
      go_wp2_with fail
      refine HST.out.mono ?_
      rintro e w3 ⟨rfl, hm3, ho3⟩
      have HM3 := hid hm3
      have HA3 := hid (ho3.blk HA.out.za (by have := HM.out; simp; omega))
      have HB3 := hid (ho3.blk HA.out.zb (by have := HM.out; simp; omega))
      have HO3 := hid (HA.out.on.trans ho3)
      have HR3 := hid (HA.out.rd.apart ho3 (by have := HM.out; omega))
      have HMO := hid (M.step_ok HA.out.ok 1)
      clear hm3 ho3 c0
      cases b with
      | false =>
        have z0 : w3.cell? ⟨h, 0, none⟩ = some (.int .i64 0) := HA3.out.cell 0
        have z1 : w3.cell? ⟨h, 1, none⟩ = some (.slice none 0 0) := HA3.out.cell 1
        have z2 : w3.cell? ⟨h, 2, none⟩ = some (.slice none 0 0) := HA3.out.cell 2
        have y0 : w3.cell? ⟨h + 1, 0, none⟩ = some (.int .i64 0) := HB3.out.cell 0
        have y1 : w3.cell? ⟨h + 1, 1, none⟩ = some (.int .i64 0) := HB3.out.cell 1
        have fa0 := HA3.out.froz 0
        have fa1 := HA3.out.froz 1
        have fa2 := HA3.out.froz 2
        have fb0 := HB3.out.froz 0
        have fb1 := HB3.out.froz 1
        go_wp2_with (go_at_call 33; refine (HRF.out _ HM3.out).mono ?_; rintro e w4 ⟨rfl, rfl⟩)
        try rw [Exit.noGoto_ret]
        obtain ⟨p1, p2, p3, p4, _⟩ := putR_all HH.out HA3.out HB3.out HO3.out HM3.out HM.out (.int .i64 0) (.slice none 0 0) (.slice none 0 0) (.int .i64 (m'.step 1).why) (.int .i64 0)
        refine bodyPost_ret (results15 p1 p2 rfl rfl) rfl ?_
        rw [← HE.out]
        exact ⟨p3, p4, rfl⟩
      | true =>
        have HTK := hid (take_byte (h + 1 + 1) bp (h + 1 + 1) st gv pv tv c w3 HR3.out HA.out.gd HA.out.nm HC.out)
        rw [← HCD.out] at HTK
        go_wp2_with fail
        refine HTK.out.mono ?_
        rw [HCD.out]
        rintro e w4 ⟨ht, hb4⟩
        have HM4 := hid ((hb4.block mb (by have := HM.out; omega)).trans HM3.out)
        have HA4 := hid ((hb4.block h (by omega)).trans HA3.out)
        have HB4 := hid ((hb4.block (h + 1) (by omega)).trans HB3.out)
        have HO4 : Hid (Only [mb] w w4) := hid ⟨hb4.os.trans HO3.out.os, hb4.tape.trans HO3.out.tape, hb4.output.trans HO3.out.output, Nat.le_trans HO3.out.size hb4.size, fun k hk hn => (hb4.block k (by have := HH.out; omega)).trans (HO3.out.block k hk hn)⟩
        cases htk : tk st c with
        | none =>
          rw [htk] at ht HE
          simp only at ht
          subst ht
          have hbd := bad_ne st
          have z0 : w4.cell? ⟨h, 0, none⟩ = some (.int .i64 0) := Blk.cell HA4.out 0
          have z1 : w4.cell? ⟨h, 1, none⟩ = some (.slice none 0 0) := Blk.cell HA4.out 1
          have z2 : w4.cell? ⟨h, 2, none⟩ = some (.slice none 0 0) := Blk.cell HA4.out 2
          have y0 : w4.cell? ⟨h + 1, 0, none⟩ = some (.int .i64 0) := Blk.cell HB4.out 0
          have y1 : w4.cell? ⟨h + 1, 1, none⟩ = some (.int .i64 0) := Blk.cell HB4.out 1
          have fa0 := Blk.froz HA4.out 0
          have fa1 := Blk.froz HA4.out 1
          have fa2 := Blk.froz HA4.out 2
          have fb0 := Blk.froz HB4.out 0
          have fb1 := Blk.froz HB4.out 1
          clear hb4 htk
          go_wp2_with fail
          try rw [Exit.noGoto_ret]
          obtain ⟨p1, p2, p3, p4, _⟩ := putR_all HH.out HA4.out HB4.out HO4.out HM4.out HM.out (.int .i64 0) (.slice none 0 0) (.slice none 0 0) (.int .i64 (bad st)) (.int .i64 i)
          refine bodyPost_ret (results15 p1 p2 rfl rfl) rfl ?_
          rw [← HE.out]
          exact ⟨p3, p4, rfl⟩
        | some s' =>
          rw [htk] at ht HE
          simp only at ht
          obtain ⟨rfl, bp', gv', pv', tv', hR⟩ := ht
          have hg := took HA.out.gd HA.out.nm HC.out htk
          have HR4 := hid hR
          have HG4 := hid hg
          clear hb4 htk hR hg
          go_wp2_with fail
          refine ⟨⟨i + 1, m'.step 1, s', bp', gv', pv', tv', by go_num, ?_, HMO.out, HM4.out, HR4.out, HG4.out.1, HG4.out.2, HA4.out, HB4.out, HO4.out, ?_⟩, ?_⟩
          · rw [bl_length]; have := HLT.out; omega
          · rw [← HE.out]; simp
          · have := HLT.out
            simp [RowKit.intOf]; omega
end Go.Proofs.Ytdinlaoimpoolaa
