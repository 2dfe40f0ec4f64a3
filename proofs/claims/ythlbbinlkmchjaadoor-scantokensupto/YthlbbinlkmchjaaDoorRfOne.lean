/- A scan by a meter that has refused. -/
import Derived.Test.YthlbbinlkmchjaaDoorMark
namespace Go.Proofs.YthlbbinlkmchjaaDoor
open Go.RowKit

theorem alloc_still' (w : World) (o : Obj) : Only [] w (w.alloc o) := (Only.refl [] w).alloc o
/-- the cutter at a byte, its meter has refused -/
structure CR (w : World) (cb mb : Nat) (s : ByteArray) (p : Nat) (v : Value) (m : M) : Prop where
  c : Blk w cb (ccells mb s p v (0, 0)) 64
  mt : Blk w mb m.cells 68
  ne : cb ≠ mb
  ok : m.Ok
  bad : m.why ≠ 0
  le : p < s.size
  sz : s.size ≤ 4294967296
theorem CR.only {w w' : World} {cb mb : Nat} {s : ByteArray} {p : Nat} {v : Value} {m : M} (h : CR w cb mb s p v m) (k : Only [] w w') : CR w' cb mb s p v m :=
  ⟨k.blk h.c (by simp), k.blk h.mt (by simp), h.ne, h.ok, h.bad, h.le, h.sz⟩
theorem CR.drewN {w : World} {cb mb : Nat} {s : ByteArray} {p : Nat} {v : Value} {m : M} (h : CR w cb mb s p v m) (n : Nat) : CR (w.drewN n) cb mb s p v m := h.only (only_drewN w n)
theorem M.step_r {m : M} (hw : m.why ≠ 0) (n : Int) : m.stepOk n = false ∧ m.step n = m := by
  refine ⟨?_, if_pos (.inr hw)⟩
  unfold M.stepOk chOk
  simp
  omega
theorem M.hold_r {m : M} (hw : m.why ≠ 0) (n : Int) : m.holdOk n = false ∧ m.hold n = m := by
  refine ⟨?_, if_pos (.inr hw)⟩
  unfold M.holdOk chOk
  simp
  omega

set_option maxHeartbeats 1000000 in
theorem ahead_r {w : World} {cb mb : Nat} {s : ByteArray} {p : Nat} {v : Value} {m : M} (h : CR w cb mb s p v m) :
    Calls Tryd.prog 60 #[.pointer (some ⟨cb, 0, none⟩)] w fun e w' => e = .returned (.int .i64 (aheadI (rest s p).head?)) ∧ ∃ n, w' = w.drewN n := by
  have c1 : w.cell? ⟨cb, 1, none⟩ = some (.string s) := h.c.cell 1
  have c2 : w.cell? ⟨cb, 2, none⟩ = some (.int .i64 p) := h.c.cell 2
  have hsz := h.sz
  have hp := h.le
  clear h
  · have hb := byte_rest s p hp
    have hu := (s[p]'hp).toNat_lt
    have HB : Hid (aheadI (rest s p).head? = ((s[p]'hp).toNat : Int)) := by rw [hb]; rfl
    have h1 : ¬ (p : Int) = (s.size : Int) := by omega
    obtain ⟨x, hx⟩ : ∃ x, s[p]'hp = x := ⟨_, rfl⟩
    rw [hx] at HB hu
    clear hb
    go_enter Tryd.func60, Tryd.ntmps60
    go_wp2
    go_quiet (fail)
    go_wp2
    go_quiet (fail)
    go_wp2
    go_ret
    refine ⟨ret_int ?_, _, drewN_two _ _ _⟩
    exact HB.out.symm

set_option maxHeartbeats 1000000 in
theorem step_r {w : World} {cb mb : Nat} {s : ByteArray} {p : Nat} {v : Value} {m : M} (h : CR w cb mb s p v m) :
    Calls Tryd.prog 80 #[.pointer (some ⟨cb, 0, none⟩)] w fun e w' => e = .returned (.bool false) ∧ Cx w' cb mb s m (m.why, 0) ∧ Only [cb, mb] w w' := by
  obtain ⟨hc, hm, hne, hok, hw, hle, hsz⟩ := h
  have HST := hid (fun W (h : Blk W mb m.cells 68) => step_any m hok mb 1 W h)
  rw [(M.step_r hw 1).1, (M.step_r hw 1).2] at HST
  have HM := hid hm
  have HN := hid hne
  have HC := hid hc
  have c0 : w.cell? ⟨cb, 0, none⟩ = some (.pointer (some ⟨mb, 0, none⟩)) := hc.cell 0
  have HF := hid (fun W hc hm => refused_c (w := W) (cb := cb) (mb := mb) (s := s) (p := p) (v := v) (m := m) (F := (0, 0)) hc hm hne hok)
  clear hc hm hne hw
  go_enter Tryd.func80, Tryd.ntmps80
  go_wp2_with fail
  refine (HST.out _ HM.out).mono ?_
  rintro e w1 ⟨rfl, hm1, ho1⟩
  have hc1 := ho1.blk HC.out (by simpa using HN.out)
  go_wp2_with fail
  refine (HF.out _ hc1 hm1).mono ?_
  rintro e w2 ⟨rfl, hx2, ho2⟩
  go_wp2
  go_ret
  exact ⟨rfl, hx2, ho1.inr.trans ho2.inl⟩
set_option maxHeartbeats 1000000 in
theorem wrong_r {w : World} {cb mb : Nat} {s : ByteArray} {p : Nat} {v : Value} {m : M} (h : CR w cb mb s p v m) (k : Nat) :
    Calls Tryd.prog 84 #[.pointer (some ⟨cb, 0, none⟩), .int .i64 k] w fun e w' => e = .returned (.bool false) ∧ Cx w' cb mb s m (m.why, 0) ∧ Only [cb, mb] w w' := by
  have HU := hid h
  have HA := hid (ahead_r h)
  have c2 : w.cell? ⟨cb, 2, none⟩ = some (.int .i64 p) := h.c.cell 2
  have hb := byte_rest s p h.le
  obtain ⟨x, hx⟩ : ∃ x : Nat, (s[p]'h.le).toNat = x := ⟨_, rfl⟩
  rw [hx] at hb
  rw [hb] at HA
  have hne : ((aheadI (some x)) == -1) = false := by simp [aheadI]
  have hne2 : ¬ (aheadI (some x)) = -1 := by simp [aheadI]
  obtain ⟨y, hy⟩ : ∃ y, aheadI (some x) = y := ⟨_, rfl⟩
  rw [hy] at HA hne hne2
  clear h hx hb hy
  go_enter Tryd.func84, Tryd.ntmps84
  go_wp2_with fail
  refine HA.out.mono ?_
  rintro e w1 ⟨rfl, n, rfl⟩
  go_wp2_with fail
  refine (step_r (HU.out.drewN n)).mono ?_
  rintro e w2 ⟨rfl, hx2, ho2⟩
  go_wp2
  go_ret
  exact ⟨rfl, hx2, Only.behind (only_drewN w n) ho2⟩
set_option maxHeartbeats 1000000 in
theorem steps_r {w : World} {cb mb : Nat} {s : ByteArray} {p : Nat} {v : Value} {m : M} (h : CR w cb mb s p v m) (n : Nat) (hn : 1 ≤ n) :
    Calls Tryd.prog 108 #[.pointer (some ⟨cb, 0, none⟩), .int .i64 n] w fun e w' => e = .returned (.bool false) ∧ Cx w' cb mb s m (m.why, 0) ∧ Only [cb, mb] w w' := by
  have HU := hid h
  clear h
  go_enter Tryd.func108, Tryd.ntmps108
  go_wp2
  go_loopw [6] (fun i wr => i = .int .i64 0 ∧ wr = w) (fun i _ => 0)
  case atStart => exact ⟨rfl, rfl⟩
  case round =>
    obtain ⟨rfl, rfl⟩ := hrel
    have hlt' : (0 : Int) < (n : Int) := by omega
    go_wp2_with fail
    refine (step_r HU.out).mono ?_
    rintro e w1 ⟨rfl, hx, hol⟩
    go_wp2
    go_ret
    exact ⟨rfl, hx, hol⟩
set_option maxHeartbeats 1000000 in
theorem steps_z {w : World} {cb mb : Nat} {s : ByteArray} {p : Nat} {v : Value} {m : M} (h : CR w cb mb s p v m) :
    Calls Tryd.prog 108 #[.pointer (some ⟨cb, 0, none⟩), .int .i64 (0 : Nat)] w fun e w' => e = .returned (.bool true) ∧ w' = w := by
  go_enter Tryd.func108, Tryd.ntmps108
  go_wp2
  go_loopw [6] (fun i wr => i = .int .i64 0 ∧ wr = w) (fun i _ => 0)
  case atStart => exact ⟨rfl, rfl⟩
  case round =>
    obtain ⟨rfl, rfl⟩ := hrel
    go_wp2
    go_ret
    exact ⟨rfl, rfl⟩
set_option maxHeartbeats 1000000 in
theorem entity_r {w : World} {cb mb : Nat} {s : ByteArray} {p : Nat} {v : Value} {m : M} (h : CR w cb mb s p v m) :
    Calls Tryd.prog 99 #[.pointer (some ⟨cb, 0, none⟩)] w fun e w' => (∃ i : Int, e = .returned (.tuple #[.int .i64 i, .bool false])) ∧ Cx w' cb mb s m (m.why, 0) ∧ Only [cb, mb] w w' := by
  have HU := hid h
  clear h
  go_enter Tryd.func99, Tryd.ntmps99
  go_wp2_with fail
  refine (step_r HU.out).mono ?_
  rintro e w1 ⟨rfl, hx, hol⟩
  go_wp2
  go_ret2
  exact ⟨⟨_, rfl⟩, hx, hol⟩

set_option maxRecDepth 100000 in
set_option maxHeartbeats 4000000 in
theorem plain_r {w : World} {cb mb : Nat} {s : ByteArray} {p : Nat} {v : Value} {m : M} (h : CR w cb mb s p v m) (hT : Tb w) :
    Calls Tryd.prog 100 #[.pointer (some ⟨cb, 0, none⟩)] w fun e w' => (∃ i : Int, e = .returned (.tuple #[.int .i64 i, .bool false])) ∧ Cx w' cb mb s m (m.why, 0) ∧ Only [cb, mb] w w' := by
  have HU := hid h
  have HT := hid hT
  have hp := h.le
  have hsz := h.sz
  have c1 : w.cell? ⟨cb, 1, none⟩ = some (.string s) := h.c.cell 1
  have c2 : w.cell? ⟨cb, 2, none⟩ = some (.int .i64 p) := h.c.cell 2
  have hp' : (p : Int) < (s.size : Int) := by omega
  have h0' : (0 : Int) ≤ (p : Int) := by omega
  have hsz' : (s.size : Int) ≤ 4294967296 := by omega
  obtain ⟨q, hq⟩ : ∃ q : Nat, q = min (p + 4) s.size := ⟨_, rfl⟩
  have hqI : min ((p : Int) + 4) (s.size : Int) = (q : Int) := by omega
  have hq1 : (p : Int) ≤ (q : Int) := by omega
  have hq2 : (q : Int) ≤ (s.size : Int) := by omega
  obtain ⟨near, hn⟩ : ∃ near, s.extract p q = near := ⟨_, rfl⟩
  have hbn : bl near = (rest s p).take 4 := by
    rw [← hn, bl_extract, hq]
    show ((bl s).drop p).take _ = _
    by_cases h4 : p + 4 ≤ s.size
    · rw [Nat.min_eq_left h4, Nat.add_sub_cancel_left]; rfl
    · rw [Nat.min_eq_right (by omega)]
      show (rest s p).take _ = _
      rw [List.take_of_length_le (by rw [rest_length]; exact Nat.le_refl _), List.take_of_length_le (by rw [rest_length]; omega)]
  have hns : near.size ≤ 4 := by rw [← bl_length, hbn, List.length_take]; omega
  have hne : rest s p ≠ [] := fun e => by have := rest_length s p; rw [e] at this; simp at this; omega
  have hne4 : bl near ≠ [] := by rw [hbn]; intro e; rcases hr : rest s p with _ | ⟨b, t⟩; exact hne hr; rw [hr] at e; cases e
  obtain ⟨b1, b2, b3⟩ := bad_take4 (rest s p)
  rw [← hbn] at b1 b2 b3
  have HN := hid hn
  have HQ := hid hqI
  have HCUT := hid (fun W => cut_any near 1 W (by omega) (by omega) (by omega))
  rcases hb : bad (rest s p) with _ | e
  · rw [hb] at b1
    have hwd := bad_none b1
    have hpos : pos 1 (bl near) = wd (bl near) := by rw [pos_one, b1]; rfl
    rw [show (1 : Int).toNat = 1 from rfl, hpos] at HCUT
    obtain ⟨d, hd⟩ : ∃ d, wd (bl near) = d := ⟨_, rfl⟩
    obtain ⟨ft, hft⟩ : ∃ ft, near.extract 0 d = ft := ⟨_, rfl⟩
    rw [hd] at HCUT hwd b3
    rw [hft] at HCUT
    have hbf : bl ft = (bl near).take d := by rw [← hft, bl_extract]; rfl
    have hfs : ft.size = d := by rw [← bl_length, hbf, List.length_take]; omega
    obtain ⟨g1, g2, g3⟩ := good_pre b1 (m := bl ft) (by rw [hbf, List.take_take, hd, Nat.min_self])
    rw [hd] at g3
    have hdec : Lib.decodeGo ft = (rune (rest s p), d) := by
      unfold Lib.decodeGo
      rw [if_neg (by omega), decode_good (p := 0) (by rw [List.drop_zero]; exact g1), List.drop_zero, g2, b2, g3]
    have HDEC := hid (fun W (h : Lib.Utf8Tabs 1 2 W) => Tryd.utf8_DecodeRuneInString ft W h)
    rw [hdec] at HDEC
    have hfne : ¬ ft = ⟨#[]⟩ := by intro e; rw [e] at hfs; have : (ByteArray.mk #[]).size = 0 := rfl; omega
    have hfne2 : (ft.toList == []) = false := by
      refine beq_eq_false_iff_ne.2 ?_
      intro h
      have h2 := congrArg List.length h
      rw [ByteArray.toList_eq] at h2
      have h3 : ft.data.toList.length = ft.size := by simp
      simp only [List.length_nil] at h2
      omega
    have hrw := rune_width hb
    have hle : p + d ≤ s.size := by
      have := (bad_none hb).2
      rw [rest_length, ← b3] at this
      omega
    obtain ⟨r, hr⟩ : ∃ r, rune (rest s p) = r := ⟨_, rfl⟩
    rw [hr] at HDEC hrw
    have hr0 : (0 : Int) ≤ (r : Int) := by omega
    have hr1 : (r : Int) ≤ 1114111 := by omega
    have HFSZ := hid hfs
    have HD1 : Hid (1 ≤ d) := hid (by have := (bad_none hb).1; omega)
    have hfsI : (ft.size : Int) = (d : Int) := by omega
    clear hb hpos b1 b2 b3 hne4 hbn hne h hT hn hqI hq hdec hr hd hft hbf g1 g2 g3 hwd hrw hfs
    simp only at HDEC
    go_enter Tryd.func100, Tryd.ntmps100
    go_wp2
    go_quiet (fail)
    have hex : s.extract p (min ((p : Int) + 4) (s.size : Int)).toNat = near := by rw [HQ.out, Int.toNat_natCast]; exact HN.out
    go_wp2_with fail
    rw [hex]
    refine (HCUT.out _).mono ?_
    rintro e1 w1 ⟨rfl, hb1⟩
    have HO1 := hid (Only.behind (only_drewN w nq) (Only.ofBelow hb1))
    clear hb1
    go_wp2_with fail
    have hT1 := HT.out.only HO1.out (by simp)
    refine (HDEC.out _ ⟨hT1.first, hT1.range⟩).mono ?_
    rintro e2 w2 ⟨rfl, hb2⟩
    have HO2 := hid (HO1.out.trans (Only.ofBelow hb2))
    clear hb2 hT1
    have HU2 := hid (HU.out.only HO2.out)
    go_wp2_with fail
    refine (steps_r HU2.out d HD1.out).mono ?_
    rintro e3 w3 ⟨rfl, hx, ho3⟩
    go_wp2
    go_ret2
    exact ⟨⟨_, rfl⟩, hx, (HO2.out.mono (by simp)).trans ho3⟩
  · rw [hb] at b1
    have hpos : pos 1 (bl near) = 0 := by rw [pos_one, b1]; rfl
    rw [show (1 : Int).toNat = 1 from rfl, hpos] at HCUT
    have hfirst : near.extract 0 0 = ⟨#[]⟩ := by simp; rfl
    rw [hfirst] at HCUT
    have hchk := chk_bad b1 hne4
    have HCK := hid (fun W (h : Tb W) => check_any near W (by omega) h)
    rw [hchk] at HCK
    have hle := (bad_le hb).2
    rw [rest_length] at hle
    clear hb hpos hchk b1 b2 b3 hne4 hbn hfirst hne h hT hn hqI hq
    unfold told at HCK
    simp only at HCK
    have hfld := field35_1
    go_enter Tryd.func100, Tryd.ntmps100
    go_wp2
    go_quiet (fail)
    have hex : s.extract p (min ((p : Int) + 4) (s.size : Int)).toNat = near := by rw [HQ.out, Int.toNat_natCast]; exact HN.out
    go_wp2_with fail
    rw [hex]
    refine (HCUT.out _).mono ?_
    rintro e1 w1 ⟨rfl, hb1⟩
    have ho1 := Only.behind (only_drewN w nq) (Only.ofBelow hb1)
    have HO1 := hid ho1
    clear ho1 hb1
    go_wp2_with fail
    refine (HCK.out _ (HT.out.only HO1.out (by simp))).mono ?_
    rintro e2 w2 ⟨rfl, hb2⟩
    have HO2 := hid (HO1.out.trans (Only.ofBelow hb2))
    clear hb2
    have HU2 := hid (HU.out.only HO2.out)
    go_wp2_with fail
    rcases Nat.eq_zero_or_pos e with he | he
    · subst he
      refine (steps_z HU2.out).mono ?_
      rintro e3 w3 ⟨rfl, rfl⟩
      go_wp2_with fail
      refine (wrong_r HU2.out 40).mono ?_
      rintro e4 w4 ⟨rfl, hx, ho3⟩
      go_wp2
      go_ret2
      exact ⟨⟨_, rfl⟩, hx, (HO2.out.mono (by simp)).trans ho3⟩
    · refine (steps_r HU2.out e he).mono ?_
      rintro e3 w3 ⟨rfl, hx, ho3⟩
      go_wp2
      go_ret2
      exact ⟨⟨_, rfl⟩, hx, (HO2.out.mono (by simp)).trans ho3⟩

set_option maxRecDepth 100000 in
set_option maxHeartbeats 4000000 in
theorem character_r {w : World} {cb mb : Nat} {s : ByteArray} {p : Nat} {v : Value} {m : M} (h : CR w cb mb s p v m) (hT : Tc w) :
    Calls Tryd.prog 88 #[.pointer (some ⟨cb, 0, none⟩)] w fun e w' => (∃ a b c : Int, e = .returned (.tuple #[.agg #[.int .i64 a, .int .i64 b, .int .i64 c], .bool false])) ∧ Cx w' cb mb s m (m.why, 0) ∧ Only [cb, mb] w w' := by
  have HU := hid h
  have HT := hid hT
  have hlt := h.c.lt
  have hltm := h.mt.lt
  have hncb : ¬ cb = w.heap.size := by omega
  have hncb2 : ¬ w.heap.size = cb := by omega
  have c2 : w.cell? ⟨cb, 2, none⟩ = some (.int .i64 p) := h.c.cell 2
  obtain ⟨a, ha⟩ : ∃ a, aheadI (rest s p).head? = a := ⟨_, rfl⟩
  have HA := hid (fun W (h : CR W cb mb s p v m) => (by rw [← ha]; exact ahead_r h : Calls Tryd.prog 60 #[.pointer (some ⟨cb, 0, none⟩)] W fun e w' => e = .returned (.int .i64 a) ∧ ∃ n, w' = W.drewN n))
  clear ha h hT
  by_cases h38 : a = 38
  · subst h38
    go_enter Tryd.func88, Tryd.ntmps88
    go_wp2_with fail
    refine (HA.out _ (HU.out.only (alloc_still' w _))).mono ?_
    rintro e w1 ⟨rfl, n, rfl⟩
    go_wp2_with fail
    refine (entity_r ((HU.out.only (alloc_still' w _)).drewN n)).mono ?_
    rintro e w2 ⟨⟨i, rfl⟩, hx, hol⟩
    have hB0 := ((Blk.new w #[.int .i64 0, .int .i64 0, .int .i64 0] 50 rfl).drewN n)
    have hB := hid (hol.blk hB0 (by simp; omega))
    obtain ⟨p', v', hcb⟩ := hx.c
    have d2 : w2.cell? ⟨cb, 2, none⟩ = some (.int .i64 p') := hcb.cell 2
    have e0 := hB.out.cell 0
    have e1 := hB.out.cell 1
    have e2 := hB.out.cell 2
    have f0 := hB.out.froz 0
    have f1 := hB.out.froz 1
    have f2 := hB.out.froz 2
    simp only [List.getElem?_cons_zero, List.getElem?_cons_succ] at e0 e1 e2
    have HX := hid hx
    have HOL := hid hol
    have HCB := hid hcb
    clear hx hol hB0 hcb
    go_wp2_with fail
    have hB2 := ((hB.out.set 0 (.int .i64 i)).set 1 (.int .i64 p)).set 2 (.int .i64 p')
    have g0 := hB2.cell 0
    have g1 := hB2.cell 1
    have g2 := hB2.cell 2
    simp only [List.set_cons_zero, List.set_cons_succ, List.getElem?_cons_zero, List.getElem?_cons_succ] at g0 g1 g2
    refine bodyPost_ret (v := .tuple #[chV i p p', .bool false]) ?_ rfl ⟨⟨_, _, _, rfl⟩, ?_, ?_⟩
    · simp [results, Tryd.f88, go_sem, g0, g1, g2, chV]
    · exact ⟨⟨p', v', ((HCB.out.other _ _ hncb).other _ _ hncb).other _ _ hncb⟩, ((HX.out.mt.other _ _ (by simp; omega)).other _ _ (by simp; omega)).other _ _ (by simp; omega), HX.out.ok⟩
    · exact ((((Only.behind (((Only.refl [] w).alloc _).drewN n) HOL.out).set (.inr (Nat.le_refl _)) _).set (.inr (Nat.le_refl _)) _).set (.inr (Nat.le_refl _)) _)
  · go_enter Tryd.func88, Tryd.ntmps88
    go_wp2_with fail
    refine (HA.out _ (HU.out.only (alloc_still' w _))).mono ?_
    rintro e w1 ⟨rfl, n, rfl⟩
    go_wp2_with fail
    refine (plain_r ((HU.out.only (alloc_still' w _)).drewN n) ((HT.out.alloc _).drewN n).tb).mono ?_
    rintro e w2 ⟨⟨i, rfl⟩, hx, hol⟩
    have hB0 := ((Blk.new w #[.int .i64 0, .int .i64 0, .int .i64 0] 50 rfl).drewN n)
    have hB := hid (hol.blk hB0 (by simp; omega))
    obtain ⟨p', v', hcb⟩ := hx.c
    have d2 : w2.cell? ⟨cb, 2, none⟩ = some (.int .i64 p') := hcb.cell 2
    have e0 := hB.out.cell 0
    have e1 := hB.out.cell 1
    have e2 := hB.out.cell 2
    have f0 := hB.out.froz 0
    have f1 := hB.out.froz 1
    have f2 := hB.out.froz 2
    simp only [List.getElem?_cons_zero, List.getElem?_cons_succ] at e0 e1 e2
    have HX := hid hx
    have HOL := hid hol
    have HCB := hid hcb
    clear hx hol hB0 hcb
    go_wp2_with fail
    have hB2 := ((hB.out.set 0 (.int .i64 i)).set 1 (.int .i64 p)).set 2 (.int .i64 p')
    have g0 := hB2.cell 0
    have g1 := hB2.cell 1
    have g2 := hB2.cell 2
    simp only [List.set_cons_zero, List.set_cons_succ, List.getElem?_cons_zero, List.getElem?_cons_succ] at g0 g1 g2
    refine bodyPost_ret (v := .tuple #[chV i p p', .bool false]) ?_ rfl ⟨⟨_, _, _, rfl⟩, ?_, ?_⟩
    · simp [results, Tryd.f88, go_sem, g0, g1, g2, chV]
    · exact ⟨⟨p', v', ((HCB.out.other _ _ hncb).other _ _ hncb).other _ _ hncb⟩, ((HX.out.mt.other _ _ (by simp; omega)).other _ _ (by simp; omega)).other _ _ (by simp; omega), HX.out.ok⟩
    · exact ((((Only.behind (((Only.refl [] w).alloc _).drewN n) HOL.out).set (.inr (Nat.le_refl _)) _).set (.inr (Nat.le_refl _)) _).set (.inr (Nat.le_refl _)) _)
end Go.Proofs.YthlbbinlkmchjaaDoor
namespace Go.Proofs.YthlbbinlkmchjaaDoor
open Go.RowKit

set_option maxRecDepth 100000 in
set_option maxHeartbeats 4000000 in
theorem characters_r {w : World} {cb mb : Nat} {s : ByteArray} {p : Nat} {v : Value} {m : M} (h : CR w cb mb s p v m) (hT : Tc w) (hb : ¬ (rest s p).head? = some 60) :
    Calls Tryd.prog 62 #[.pointer (some ⟨cb, 0, none⟩)] w fun e w' => e = .returned (.bool false) ∧ Cx w' cb mb s m (m.why, 0) ∧ Only [cb, mb] w w' := by
  have HU := hid h
  have HT := hid hT
  have c2 : w.cell? ⟨cb, 2, none⟩ = some (.int .i64 p) := h.c.cell 2
  obtain ⟨a, ha⟩ : ∃ a, aheadI (rest s p).head? = a := ⟨_, rfl⟩
  have HA := hid (fun W (h : CR W cb mb s p v m) => (by rw [← ha]; exact ahead_r h : Calls Tryd.prog 60 #[.pointer (some ⟨cb, 0, none⟩)] W fun e w' => e = .returned (.int .i64 a) ∧ ∃ n, w' = W.drewN n))
  have h1 : ¬ a = -1 := by
    rw [← ha, byte_rest s p h.le]; simp only [aheadI]; omega
  have h2 : ¬ a = 60 := by
    rw [← ha]
    rw [byte_rest s p h.le] at hb ⊢
    simp only [aheadI]
    intro e
    exact hb (by rw [Option.some.injEq]; omega)
  have e1 : (a != -1) = true := by simpa using h1
  have e2 : (a != 60) = true := by simpa using h2
  clear h hT ha hb
  go_enter Tryd.func62, Tryd.ntmps62
  go_wp2
  go_loopw [4] (fun r wr => r = .slice none 0 0 ∧ wr = w) (fun _ _ => 0)
  case atStart => exact ⟨rfl, rfl⟩
  case round =>
    obtain ⟨rfl, rfl⟩ := hrel
    go_wp2_with fail
    refine (HA.out _ HU.out).mono ?_
    rintro e w1 ⟨rfl, n, rfl⟩
    go_wp2_with fail
    refine (HA.out _ (HU.out.drewN n)).mono ?_
    rintro e w1 ⟨rfl, n2, rfl⟩
    rw [drewN_two]
    go_wp2_with fail
    refine (character_r (HU.out.drewN (n + n2)) (HT.out.drewN (n + n2))).mono ?_
    rintro e w1 ⟨⟨x, y, z, rfl⟩, hx, hol⟩
    go_wp2
    go_ret
    obtain ⟨p', v', hcb⟩ := hx.c
    exact ⟨rfl, ⟨⟨p', v', hcb.alloc _⟩, hx.mt.alloc _, hx.ok⟩, (Only.behind (only_drewN _ _) hol).alloc _⟩
set_option maxRecDepth 100000 in
set_option maxHeartbeats 4000000 in
theorem tag_r {w : World} {cb mb : Nat} {s : ByteArray} {p : Nat} {v : Value} {m : M} (h : CR w cb mb s p v m) :
    Calls Tryd.prog 61 #[.pointer (some ⟨cb, 0, none⟩)] w fun e w' => e = .returned (.bool false) ∧ Cx w' cb mb s m (m.why, 0) ∧ Only [cb, mb] w w' := by
  have HU := hid h
  have c2 : w.cell? ⟨cb, 2, none⟩ = some (.int .i64 p) := h.c.cell 2
  clear h
  go_enter Tryd.func61, Tryd.ntmps61
  go_wp2
  refine wp_labels2 (fun _ _ _ => False) (fun _ _ _ => 0) ?again ?start
  case start =>
    intro ag
    clear ag
    go_wp2_with fail
    refine (step_r HU.out).mono ?_
    rintro e w1 ⟨rfl, hx, hol⟩
    go_wp2
    rw [jumps_ret]
    go_ret
    exact ⟨rfl, hx, hol⟩
  case again => exact fun _ _ _ h => h.elim
set_option maxRecDepth 100000 in
set_option maxHeartbeats 4000000 in
theorem markup_r {w : World} {cb mb : Nat} {s : ByteArray} {v : Value} {m : M} (h : CR w cb mb s 0 v m) (hT : Tc w) :
    Calls Tryd.prog 40 #[.pointer (some ⟨cb, 0, none⟩)] w fun e w' => e = .returned (.bool false) ∧ Cx w' cb mb s m (m.why, 0) ∧ Only [cb, mb] w w' := by
  have HU := hid h
  have HT := hid hT
  obtain ⟨a, ha⟩ : ∃ a, aheadI (rest s 0).head? = a := ⟨_, rfl⟩
  have HA := hid (by rw [← ha]; exact ahead_r h : Calls Tryd.prog 60 #[.pointer (some ⟨cb, 0, none⟩)] w fun e w' => e = .returned (.int .i64 a) ∧ ∃ n, w' = w.drewN n)
  have h1 : ¬ a = -1 := by
    rw [← ha, byte_rest s 0 h.le]; simp only [aheadI]; omega
  have hways : a = 60 ∨ ¬ a = 60 ∧ ¬ (rest s 0).head? = some 60 := by
    by_cases h2 : a = 60
    · exact .inl h2
    · refine .inr ⟨h2, fun e => h2 ?_⟩
      rw [← ha, e]; rfl
  have e1 : (a == -1) = false := by simpa using h1
  clear h hT ha
  go_enter Tryd.func40, Tryd.ntmps40
  go_wp2
  go_step3
  go_wp2
  go_step3
  go_wp2
  go_loopw [3] (fun v wr => (v = .bool true ∧ wr = w) ∨ (v = .bool false ∧ Cx wr cb mb s m (m.why, 0) ∧ Only [cb, mb] w wr)) (fun v _ => match v with | .bool true => 1 | _ => 0)
  case atStart => exact .inl ⟨rfl, rfl⟩
  case round =>
    rcases hrel with ⟨rfl, rfl⟩ | ⟨rfl, hx, ho⟩
    · rcases hways with rfl | ⟨h2, hno⟩
      · go_wp2_with fail
        refine HA.out.mono ?_
        rintro e w1 ⟨rfl, n, rfl⟩
        go_wp2_with fail
        refine (tag_r (HU.out.drewN n)).mono ?_
        rintro e w2 ⟨rfl, hx, hol⟩
        go_wp2
        go_roundw
        case rel => exact .inr ⟨rfl, hx, Only.behind (only_drewN _ n) hol⟩
        case measure => simp
      · have e2 : (a == 60) = false := by simpa using h2
        have HNO := hid hno
        clear hno
        go_wp2_with fail
        refine HA.out.mono ?_
        rintro e w1 ⟨rfl, n, rfl⟩
        go_wp2_with fail
        refine (characters_r (HU.out.drewN n) (HT.out.drewN n) HNO.out).mono ?_
        rintro e w2 ⟨rfl, hx, hol⟩
        go_wp2
        go_roundw
        case rel => exact .inr ⟨rfl, hx, Only.behind (only_drewN _ n) hol⟩
        case measure => simp
    · go_wp2
      rw [Exit.noGoto_ret]
      go_ret
      exact ⟨rfl, hx, ho⟩
set_option maxRecDepth 100000 in
set_option maxHeartbeats 8000000 in
theorem scan_r {w0 : World} {mb : Nat} {s : ByteArray} {m : M} (hm : Blk w0 mb m.cells 68) (hok : m.Ok) (hw : m.why ≠ 0) (hs : s.size ≤ 4294967296) (hp : 0 < s.size) (hT : Tc w0) :
    Calls Tryd.prog 13 #[.pointer (some ⟨mb, 0, none⟩), .string s] w0 fun e w' => ScanPost w0 w' mb (m, .error (m.why, 0)) e := by
  have hlt := hm.lt
  have hsc : CR ((w0.alloc (.cells #[.int .i64 0, .int .i64 0] 35)).alloc (.cells #[.pointer (some ⟨mb, 0, none⟩), .string s, .int .i64 0, .slice none 0 0, .int .i64 0, .int .i64 0] 64)) (w0.heap.size + 1) mb s 0 (.slice none 0 0) m :=
    ⟨Blk.new _ _ 64 (by simp), (hm.alloc _).alloc _, by omega, hok, hw, hp, hs⟩
  have HM := hid (markup_r hsc ((hT.alloc _).alloc _))
  have hb5 := Blk.new w0 #[.int .i64 0, .int .i64 0] 35 rfl
  have HB5 := hid hb5
  have hltI : ¬ mb = w0.heap.size := by omega
  clear hsc hb5 hm hw
  go_enter Tryd.func13, Tryd.ntmps13
  go_wp2_with fail
  refine HM.out.mono ?_
  rintro e w1 ⟨rfl, h1, h3'⟩
  have HX := hid h1
  have H3 := hid h3'
  obtain ⟨p', v', hcb⟩ := h1.c
  have hk5 := h3'.blk (HB5.out.alloc _) (by simp; omega)
  have HK5 := hid hk5
  have f0 := hk5.froz 0
  have f1 := hk5.froz 1
  have e0 := hk5.cell 0
  have e1 := hk5.cell 1
  simp only [List.getElem?_cons_zero, List.getElem?_cons_succ] at e0 e1
  have c4 : w1.cell? ⟨w0.heap.size + 1, 4, none⟩ = some (.int .i64 m.why) := hcb.cell 4
  have c5 : w1.cell? ⟨w0.heap.size + 1, 5, none⟩ = some (.int .i64 0) := hcb.cell 5
  clear h1 h3' hk5 hcb
  go_wp2_with fail
  go_region
  go_wp2_with fail
  have hB2 := ((HK5.out.set 0 (.int .i64 m.why)).set 1 (.int .i64 0)).drew
  have g0 := hB2.cell 0
  have g1 := hB2.cell 1
  simp only [List.set_cons_zero, List.set_cons_succ, List.getElem?_cons_zero, List.getElem?_cons_succ] at g0 g1
  have hOn : Only [w0.heap.size] w1 ((w1.setCell ⟨w0.heap.size, 0, none⟩ (.int .i64 m.why)).setCell ⟨w0.heap.size, 1, none⟩ (.int .i64 0)).drew := (((Only.refl _ _).set (p := ⟨w0.heap.size, 0, none⟩) (.inl (by simp)) _).set (p := ⟨w0.heap.size, 1, none⟩) (.inl (by simp)) _).drew
  have hO3 : Only [mb] w0 w1 := Only.fresh (Only.behind (((Only.refl [] w0).alloc _).alloc _) (Only.refl [mb] _)) H3.out (fun i hi hlt => by simp at hi; simp; omega)
  refine bodyPost_ret (v := .tuple #[nilS, .agg #[.int .i64 m.why, .int .i64 0]]) ?_ rfl ⟨nilS, [], (m.why, 0), rfl, ?_, ?_, ?_, ?_, ?_⟩
  · simp [results, Tryd.f13, go_sem, g0, g1, nilS]
  · exact ⟨World.ownsRow_nil _ _ _ _, fun x hx => (by cases hx), List.nodup_nil⟩
  · exact hOn.blk HX.out.mt (by simpa using hltI)
  · exact HX.out.ok
  · exact (((hO3).set (p := ⟨w0.heap.size, 0, none⟩) (.inr (Nat.le_refl _)) _).set (p := ⟨w0.heap.size, 1, none⟩) (.inr (Nat.le_refl _)) _).drew
  · exact ⟨rfl, rfl, rfl⟩
end Go.Proofs.YthlbbinlkmchjaaDoor
