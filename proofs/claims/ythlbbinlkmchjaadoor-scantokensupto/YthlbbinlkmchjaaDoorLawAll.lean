/- ScanTokens' walk, given that both scans answer alike. -/
import Derived.Test.YthlbbinlkmchjaaDoorBsOne
import Derived.Test.YthlbbinlkmchjaaDoorBk8
import Derived.Test.YthlbbinlkmchjaaDoorRfOne
import Derived.Test.YthlbbinlkmchjaaDoorRfTwo
namespace Go.Proofs.YthlbbinlkmchjaaDoor
open Go.RowKit

theorem Tc.below {w w' : World} {B : Nat} (h : Tc w) (k : Below B w w') (h3 : 3 ≤ B) : Tc w' := by
  refine h.only (L := (List.range w.heap.size).filter (fun b => decide (B ≤ b))) ⟨k.os, k.tape, k.output, k.size, fun b hb hn => k.block b ?_⟩ (fun i hi => ?_)
  · rcases Nat.lt_or_ge b B with q | q
    · exact q
    · exact absurd (List.mem_filter.2 ⟨List.mem_range.2 hb, decide_eq_true q⟩) hn
  · have := of_decide_eq_true (List.mem_filter.1 hi).2
    omega
theorem bscan_c {W : World} {hb B : Nat} {es rs : List En} {fw gw : Nat} (hbk : Book W hb B es rs fw gw) (hT : Tc W) (h3 : 3 ≤ B) (s : ByteArray) (st ce : Int) (h0 : st ≤ 9223372036854775807) (h1 : ce ≤ 9223372036854775807)
    (hboth : ∀ m : M, m.Ok → Both s m) (hne : es.length ≤ 100000) (hnr : rs.length ≤ 100000000000) :
    Calls Tryd.prog 10 #[.pointer (some ⟨hb, 0, none⟩), .string s, .int .i64 st, .int .i64 ce] W fun e w' => e = .returned (.bool true) ∧ BPost W w' hb B es rs fw gw := by
  by_cases h : st < 0 ∨ 0 ≤ st ∧ ce < 0
  · exact bscan_no hbk s st ce h
  · exact bscan_yes hbk hT h3 s st ce ⟨by omega, h0⟩ ⟨by omega, h1⟩ hboth hne hnr
/-- the book, so many lists, and what lies below -/
def LB (w1 : World) (hb n m : Nat) (w : World) : Prop := ∃ es rs f g, Book w hb hb es rs f g ∧ es.length ≤ n ∧ rs.length ≤ m ∧ Below hb w1 w
theorem LB.scan {w1 w : World} {hb n m : Nat} (h : LB w1 hb n m w) (hT : Tc w1) (h3 : 3 ≤ hb) (hn : n ≤ 100000) (hm : m ≤ 100000000000) (s : ByteArray) (st ce : Int) (h0 : st ≤ 9223372036854775807) (h1 : ce ≤ 9223372036854775807) (hboth : ∀ m : M, m.Ok → Both s m) :
    Calls Tryd.prog 10 #[.pointer (some ⟨hb, 0, none⟩), .string s, .int .i64 st, .int .i64 ce] w fun e w' => e = .returned (.bool true) ∧ LB w1 hb (n + 1) (m + 4294967296) w' := by
  obtain ⟨es, rs, f, g, hbk, q1, q2, hlo⟩ := h
  refine (bscan_c hbk (hT.below hlo h3) h3 s st ce h0 h1 hboth (by omega) (by omega)).mono ?_
  rintro e w' ⟨rfl, es1, rs1, h1, h2, h3, h4⟩
  exact ⟨rfl, es1, rs1, f, g, h1, by omega, by omega, hlo.trans h4.lo⟩
theorem LB.write {w1 w : World} {hb n m : Nat} (h : LB w1 hb n m w) (hn : n ≤ 100000) (hm : m ≤ 100000000000) :
    Calls Tryd.prog 11 #[.pointer (some ⟨hb, 0, none⟩)] w fun e w' => e = .returned (.bool true) ∧ LB w1 hb (2 * n) (2 * m) w' := by
  obtain ⟨es, rs, f, g, hbk, q1, q2, hlo⟩ := h
  refine (write_c hbk (by omega) (by omega)).mono ?_
  rintro e w' ⟨rfl, es1, rs1, h1, h2, h3, h4⟩
  exact ⟨rfl, es1, rs1, _, _, h1, by omega, by omega, hlo.trans h4.lo⟩
theorem Book.zero (w : World) : Book (w.alloc (.cells #[.slice none 0 0, .slice none 0 0, .slice none 0 0, .slice none 0 0, .int .i64 0, .int .i64 0] 27)) w.heap.size w.heap.size [] [] 0 0 :=
  ⟨.slice none 0 0, .slice none 0 0, .slice none 0 0, .slice none 0 0, ⟨Blk.new w #[.slice none 0 0, .slice none 0 0, .slice none 0 0, .slice none 0 0, .int .i64 0, .int .i64 0] 27 rfl, Nat.le_refl _, World.ownsRow_nil _ _ _ _, World.ownsRow_nil _ _ _ _, World.ownsRow_nil _ _ _ _, World.ownsRow_nil _ _ _ _, fun b h => (by cases h), fun b h => (by cases h)⟩,
    ⟨fun e he => (by cases he), fun e he => (by cases he), fun e he => (by cases he), fun i e hi => (by simp at hi), fun i j e e' b hi => (by simp at hi)⟩, ⟨fun e he => (by cases he), fun e he => (by cases he), fun e he => (by cases he), fun i e hi => (by simp at hi), fun i j e e' b hi => (by simp at hi)⟩, Nat.le_refl _, Nat.le_refl _, fun i e hi => (by simp at hi), fun i e hi => (by simp at hi)⟩

set_option maxRecDepth 100000 in
set_option maxHeartbeats 16000000 in
theorem tokens_walk (s other : ByteArray) (st ce : Int) (h0 : st ≤ 9223372036854775807) (h1 : ce ≤ 9223372036854775807) (w : World) (hT : Tc w) (hbs : ∀ m : M, m.Ok → Both s m) (hbo : ∀ m : M, m.Ok → Both other m) :
    Calls Tryd.prog 3 #[.string s, .string other, .int .i64 st, .int .i64 ce] w fun e w' => e = .returned (.bool true) ∧ Below w.heap.size w w' := by
  have HT := hid hT
  have h3 := hT.tb.size
  have HSH := hid (shown_c hT)
  have HI := hid (And.intro h0 h1)
  have HBS := hid hbs
  have HBO := hid hbo
  clear hT hbs hbo h0 h1
  go_enter Tryd.func3, Tryd.ntmps3
  go_wp2_with fail
  refine HSH.out.mono ?_
  rintro e w1 ⟨rfl, ho1⟩
  have HO1 := hid ho1
  have HT1 := hid (HT.out.only ho1 (by simp))
  have h31 : 3 ≤ w1.heap.size := Nat.le_trans h3 ho1.size
  clear ho1 h3
  go_wp2_with fail
  have HB2 := hid (Book.zero w1)
  have HO2 := hid (alloc_still w1 (.cells #[.slice none 0 0, .slice none 0 0, .slice none 0 0, .slice none 0 0, .int .i64 0, .int .i64 0] 27))
  have HL2 : Hid (LB w1 w1.heap.size 0 0 (w1.alloc (.cells #[.slice none 0 0, .slice none 0 0, .slice none 0 0, .slice none 0 0, .int .i64 0, .int .i64 0] 27))) := hid ⟨[], [], 0, 0, HB2.out, by simp, by simp, HO2.out.below⟩
  refine (HL2.out.scan HT1.out h31 (by decide) (by decide) s st ce HI.out.1 HI.out.2 HBS.out).mono ?_
  rintro e v3 ⟨rfl, hl3⟩
  have HL3 := hid hl3
  clear hl3
  go_wp2_with fail
  refine (HL3.out.scan HT1.out h31 (by decide) (by decide) s 4611686018427387904 4611686018427387904 (by decide) (by decide) HBS.out).mono ?_
  rintro e v4 ⟨rfl, hl4⟩
  have HL4 := hid hl4
  clear hl4
  go_wp2_with fail
  refine (HL4.out.scan HT1.out h31 (by decide) (by decide) other 4611686018427387904 4611686018427387904 (by decide) (by decide) HBO.out).mono ?_
  rintro e v5 ⟨rfl, hl5⟩
  have HL5 := hid hl5
  clear hl5
  go_wp2_with fail
  refine (HL5.out.write (by decide) (by decide)).mono ?_
  rintro e v6 ⟨rfl, hl6⟩
  have HL6 := hid hl6
  clear hl6
  go_wp2_with fail
  refine (HL6.out.scan HT1.out h31 (by decide) (by decide) s st ce HI.out.1 HI.out.2 HBS.out).mono ?_
  rintro e v7 ⟨rfl, hl7⟩
  have HL7 := hid hl7
  clear hl7
  go_wp2_with fail
  refine (HL7.out.scan HT1.out h31 (by decide) (by decide) s 4611686018427387904 4611686018427387904 (by decide) (by decide) HBS.out).mono ?_
  rintro e v8 ⟨rfl, hl8⟩
  have HL8 := hid hl8
  clear hl8
  go_wp2_with fail
  refine (HL8.out.write (by decide) (by decide)).mono ?_
  rintro e v9 ⟨rfl, hl9⟩
  have HL9 := hid hl9
  clear hl9
  go_wp2_with fail
  go_ret
  obtain ⟨es, rs, f, g, -, -, -, hlo⟩ := HL9.out
  refine ⟨rfl, HO1.out.below.trans ⟨hlo.os, hlo.tape, hlo.output, hlo.size, fun b hb => hlo.block b (Nat.lt_of_lt_of_le hb HO1.out.size)⟩⟩
end Go.Proofs.YthlbbinlkmchjaaDoor
namespace Go.Proofs.YthlbbinlkmchjaaDoor
open Go.RowKit

set_option maxHeartbeats 1000000 in
theorem ahead_e {w : World} {cb mb : Nat} {s : ByteArray} {v : Value} {F : Int × Int} (h : Blk w cb (ccells mb s 0 v F) 64) (h0 : s.size = 0) :
    Calls Tryd.prog 60 #[.pointer (some ⟨cb, 0, none⟩)] w fun e w' => e = .returned (.int .i64 (-1)) ∧ ∃ n, w' = w.drewN n := by
  have c1 : w.cell? ⟨cb, 1, none⟩ = some (.string s) := h.cell 1
  have c2 : w.cell? ⟨cb, 2, none⟩ = some (.int .i64 (s.size : Int)) := by
    rw [show (s.size : Int) = 0 by omega]
    exact h.cell 2
  clear h h0
  go_enter Tryd.func60, Tryd.ntmps60
  go_wp2
  go_quiet (fail)
  go_wp2
  go_ret
  exact ⟨rfl, _, rfl⟩
set_option maxRecDepth 100000 in
set_option maxHeartbeats 4000000 in
theorem markup_e {w : World} {cb mb : Nat} {s : ByteArray} {v : Value} {F : Int × Int} (h : Blk w cb (ccells mb s 0 v F) 64) (h0 : s.size = 0) :
    Calls Tryd.prog 40 #[.pointer (some ⟨cb, 0, none⟩)] w fun e w' => e = .returned (.bool true) ∧ Only [] w w' := by
  have HA := hid (ahead_e h h0)
  clear h
  go_enter Tryd.func40, Tryd.ntmps40
  go_wp2
  go_step3
  go_wp2
  go_step3
  go_wp2
  go_loopw [3] (fun v wr => v = .bool true ∧ wr = w) (fun _ _ => 0)
  case atStart => exact ⟨rfl, rfl⟩
  case round =>
    obtain ⟨rfl, rfl⟩ := hrel
    go_wp2_with fail
    refine HA.out.mono ?_
    rintro e w1 ⟨rfl, n, rfl⟩
    go_wp2
    rw [Exit.noGoto_ret]
    go_ret
    exact ⟨rfl, only_drewN _ n⟩
set_option maxRecDepth 100000 in
set_option maxHeartbeats 8000000 in
theorem scan_e {w0 : World} {mb : Nat} {s : ByteArray} {m : M} (hm : Blk w0 mb m.cells 68) (hok : m.Ok) (h0 : s.size = 0) :
    Calls Tryd.prog 13 #[.pointer (some ⟨mb, 0, none⟩), .string s] w0 fun e w' => ScanPost w0 w' mb (m, .ok []) e := by
  have hlt := hm.lt
  have hc := Blk.new (w0.alloc (.cells #[.int .i64 0, .int .i64 0] 35)) #[.pointer (some ⟨mb, 0, none⟩), .string s, .int .i64 0, .slice none 0 0, .int .i64 0, .int .i64 0] 64 (k := w0.heap.size + 1) (by simp)
  have HC := hid hc
  have HM := hid (markup_e (mb := mb) (s := s) (v := .slice none 0 0) (F := (0, 0)) hc h0)
  have HMB := hid (((Only.refl [] w0).alloc (.cells #[.int .i64 0, .int .i64 0] 35)).alloc (.cells #[.pointer (some ⟨mb, 0, none⟩), .string s, .int .i64 0, .slice none 0 0, .int .i64 0, .int .i64 0] 64))
  have HMM := hid hm
  have hb5 := (Blk.new w0 #[.int .i64 0, .int .i64 0] 35 rfl).alloc (.cells #[.pointer (some ⟨mb, 0, none⟩), .string s, .int .i64 0, .slice none 0 0, .int .i64 0, .int .i64 0] 64)
  have HB5 := hid hb5
  have hltI : ¬ mb = w0.heap.size := by omega
  clear hb5 hm hc
  go_enter Tryd.func13, Tryd.ntmps13
  go_wp2_with fail
  refine HM.out.mono ?_
  rintro e w1 ⟨rfl, h1⟩
  have H1 := hid (HMB.out.trans h1)
  have hk5 := h1.blk HB5.out (by simp)
  have HK5 := hid hk5
  have f0 := hk5.froz 0
  have f1 := hk5.froz 1
  have e0 := hk5.cell 0
  have e1 := hk5.cell 1
  simp only [List.getElem?_cons_zero, List.getElem?_cons_succ] at e0 e1
  have c3 : w1.cell? ⟨w0.heap.size + 1, 3, none⟩ = some (.slice none 0 0) := (h1.blk HC.out (by simp)).cell 3
  clear h1 hk5
  go_wp2_with fail
  have hB2 := (HK5.out.set 0 (.int .i64 0)).set 1 (.int .i64 0)
  have g0 := hB2.cell 0
  have g1 := hB2.cell 1
  simp only [List.set_cons_zero, List.set_cons_succ, List.getElem?_cons_zero, List.getElem?_cons_succ] at g0 g1
  have hOn : Only [w0.heap.size] w1 ((w1.setCell ⟨w0.heap.size, 0, none⟩ (.int .i64 0)).setCell ⟨w0.heap.size, 1, none⟩ (.int .i64 0)) := ((Only.refl _ _).set (p := ⟨w0.heap.size, 0, none⟩) (.inl (by simp)) _).set (p := ⟨w0.heap.size, 1, none⟩) (.inl (by simp)) _
  refine bodyPost_ret (v := .tuple #[.slice none 0 0, .agg #[.int .i64 0, .int .i64 0]]) ?_ rfl ⟨.slice none 0 0, [], (0, 0), rfl, ?_, ?_, ?_, ?_, ?_⟩
  · simp [results, Tryd.f13, go_sem, g0, g1]
  · exact ⟨World.ownsRow_nil _ _ _ _, fun x hx => (by cases hx), List.nodup_nil⟩
  · exact hOn.blk (H1.out.blk HMM.out (by simp)) (by simpa using hltI)
  · exact hok
  · exact (((H1.out.mono (by simp)).set (p := ⟨w0.heap.size, 0, none⟩) (.inr (Nat.le_refl _)) _).set (p := ⟨w0.heap.size, 1, none⟩) (.inr (Nat.le_refl _)) _)
  · exact ⟨rfl, rfl⟩
set_option maxRecDepth 100000 in
set_option maxHeartbeats 16000000 in
theorem scanR_e {w0 : World} {mb : Nat} {s : ByteArray} {m : M} (hm : Blk w0 mb m.rcells 84) (hok : m.Ok) (h0 : s.size = 0) :
    Calls Tryd.prog 31 #[.pointer (some ⟨mb, 0, none⟩), .string s] w0 fun e w' => RefPost w0 w' mb (m, .ok []) e := by
  have hlt := hm.lt
  have HMB := hid hm
  have HLT := hid hlt
  clear hm hlt
  go_enter Tryd.func31, Tryd.ntmps31
  go_wp2_with fail
  obtain ⟨W5, hW5⟩ : ∃ W5, w0.alloc (.cells #[.int .i64 0, .int .i64 0] 35) = W5 := ⟨_, rfl⟩
  obtain ⟨rb, hrb⟩ : ∃ rb, w0.heap.size = rb := ⟨_, rfl⟩
  obtain ⟨xb, hxb⟩ : ∃ xb, rb + 1 = xb := ⟨_, rfl⟩
  obtain ⟨W6, hW6⟩ : ∃ W6, W5.alloc (.cells #[.pointer (some ⟨mb, 0, none⟩), .string s, .int .i64 0, .slice none 0 0, .int .i64 0, .int .i64 0, .bool false] 89) = W6 := ⟨_, rfl⟩
  have hsz5 : W5.heap.size = xb := by rw [← hW5, ← hxb, ← hrb]; simp
  have HSC := hid (show RS W6 xb mb s 0 (.slice none 0 0) (0, 0) false m by
    rw [← hW6]
    refine ⟨?_, ?_, hok, by omega, by omega⟩
    · exact Blk.new _ _ 89 hsz5
    · rw [← hW5]; exact (HMB.out.alloc _).alloc _)
  have HB5 := hid (show Blk W5 rb [.int .i64 0, .int .i64 0] 35 by rw [← hW5]; exact Blk.new w0 #[.int .i64 0, .int .i64 0] 35 hrb)
  have HO5 := hid (show Only [] w0 W5 by rw [← hW5]; exact (Only.refl [] w0).alloc _)
  have HO6 := hid (show Only [] W5 W6 by rw [← hW6]; exact (Only.refl [] W5).alloc _)
  have HRB := hid hrb
  have HXB := hid (show rb < xb ∧ mb < rb ∧ W5.heap.size = xb by have := HLT.out; omega)
  rw [hW5, hW6, hrb, hxb]
  clear hW5 hW6 hrb hxb hsz5
  go_loopw [] (fun wr => wr = W6) (fun wr => 0)
  case atStart => rfl
  case round =>
    subst hrel
    have HM := hid (more_c HSC.out)
    simp only [Bool.not_false, Bool.true_and] at HM
    rw [decide_eq_false (show ¬ 0 < s.size by omega)] at HM
    go_wp2_with fail
    refine HM.out.mono ?_
    rintro e w2 ⟨rfl, n2, rfl⟩
    obtain ⟨W2, hW2⟩ : ∃ W2, wr.drewN n2 = W2 := ⟨_, rfl⟩
    have H1 := hid (show RS W2 xb mb s 0 (.slice none 0 0) (0, 0) false m by rw [← hW2]; exact HSC.out.still (only_drewN _ _))
    have H3 := hid (show Only [] W5 W2 by rw [← hW2]; exact HO6.out.trans (only_drewN _ _))
    rw [hW2]
    clear hW2
    have hk5 := H3.out.blk HB5.out (by simp)
    have HK5 := hid hk5
    have f0 := hk5.froz 0
    have f1 := hk5.froz 1
    have e0 := hk5.cell 0
    have e1 := hk5.cell 1
    simp only [List.getElem?_cons_zero, List.getElem?_cons_succ] at e0 e1
    have c3 : W2.cell? ⟨xb, 3, none⟩ = some (.slice none 0 0) := H1.out.c.cell 3
    have c6 : W2.cell? ⟨xb, 6, none⟩ = some (.bool false) := H1.out.c.cell 6
    clear hk5
    go_wp2_with fail
    have hB2 := (HK5.out.set 0 (.int .i64 0)).set 1 (.int .i64 0)
    have g0 := hB2.cell 0
    have g1 := hB2.cell 1
    simp only [List.set_cons_zero, List.set_cons_succ, List.getElem?_cons_zero, List.getElem?_cons_succ] at g0 g1
    have hOn : Only [rb] W2 ((W2.setCell ⟨rb, 0, none⟩ (.int .i64 0)).setCell ⟨rb, 1, none⟩ (.int .i64 0)) := ((Only.refl _ _).set (p := ⟨rb, 0, none⟩) (.inl (by simp)) _).set (p := ⟨rb, 1, none⟩) (.inl (by simp)) _
    refine bodyPost_ret (v := .tuple #[.slice none 0 0, .agg #[.int .i64 0, .int .i64 0]]) ?_ rfl ⟨.slice none 0 0, [], (0, 0), rfl, ?_, ?_, ?_, ?_, ?_⟩
    · simp [results, Tryd.f31, go_sem, g0, g1]
    · exact ⟨World.ownsRow_nil _ _ _ _, fun x hx => (by cases hx), List.nodup_nil⟩
    · exact hOn.blk H1.out.mt (by have := HXB.out; simp; omega)
    · exact H1.out.ok
    · exact ((((Only.behind HO5.out H3.out).mono (by simp)).set (p := ⟨rb, 0, none⟩) (.inr (by have := HRB.out; simp; omega)) _).set (p := ⟨rb, 1, none⟩) (.inr (by have := HRB.out; simp; omega)) _)
    · exact ⟨rfl, rfl⟩
theorem both_all {s : ByteArray} {m : M} (hok : m.Ok) (hs : s.size ≤ 4294967296) : Both s m := by
  by_cases hw : m.why = 0
  · exact both_ok hok hw hs
  · rcases Nat.eq_zero_or_pos s.size with h0 | h0
    · refine ⟨(m, .ok []), fun w0 mb h1 _ _ => scan_e h1 hok h0, fun w0 mb h1 => scanR_e h1 hok h0, fun T h => ?_⟩
      obtain rfl := (Except.ok.inj h)
      exact ⟨Nat.zero_le _, fun t ht => by cases ht⟩
    · exact ⟨(m, .error (m.why, 0)), fun w0 mb h1 h2 h3 => scan_r h1 hok hw hs h0 h2, fun w0 mb h1 => scanR_r h1 hok hw hs h0, fun T h => by cases h⟩
end Go.Proofs.YthlbbinlkmchjaaDoor
