/- The law's scan: what both answer. -/
import Derived.Test.YthlbbinlkmchjaaDoorBkOne
import Derived.Test.YthlbbinlkmchjaaDoorRdThree
import Derived.Test.YthlbbinlkmchjaaDoorBm
import Derived.Test.YthlbbinlkmchjaaDoorGrAll
import Derived.BigQuiet
namespace Go.Proofs.YthlbbinlkmchjaaDoor
open Go.RowKit

theorem ans_ok {len : Nat} {fl : Option (Nat × Nat)} {T' : List Tk} : ∀ (ts : List Tk) (m : M) (T : List Tk) (p : Nat), (ans len m T p ts fl).2 = .ok T' → T' = T ++ ts
  | [], m, T, p, h => by
    rcases fl with _ | x
    · simp only [ans] at h
      split at h
      · rw [List.append_nil]; exact (Except.ok.inj h).symm
      · cases h
    · simp only [ans] at h; cases h
  | t :: ts, m, T, p, h => by
    simp only [ans] at h
    split at h
    · split at h
      · have := ans_ok ts _ _ _ h
        rw [this, List.append_assoc]; rfl
      · cases h
    · cases h
theorem ans_none {len : Nat} {fl : Option (Nat × Nat)} {T' : List Tk} : ∀ (ts : List Tk) (m : M) (T : List Tk) (p : Nat), (ans len m T p ts fl).2 = .ok T' → fl = none
  | [], m, T, p, h => by
    rcases fl with _ | x
    · rfl
    · simp only [ans] at h; cases h
  | t :: ts, m, T, p, h => by
    simp only [ans] at h
    split at h
    · split at h
      · exact ans_none ts _ _ _ h
      · cases h
    · cases h
/-- both scans answer alike -/
def Both (s : ByteArray) (m : M) : Prop := ∃ o : A, (∀ (w0 : World) (mb : Nat), Blk w0 mb m.cells 68 → Tc w0 → 3 ≤ mb → Calls Tryd.prog 13 #[.pointer (some ⟨mb, 0, none⟩), .string s] w0 fun e w' => ScanPost w0 w' mb o e) ∧
  (∀ (w0 : World) (mb : Nat), Blk w0 mb m.rcells 84 → Calls Tryd.prog 31 #[.pointer (some ⟨mb, 0, none⟩), .string s] w0 fun e w' => RefPost w0 w' mb o e) ∧ (∀ T, o.2 = .ok T → T.length ≤ 4294967296 ∧ ∀ t ∈ T, t.ch.length ≤ 4294967296)
theorem both_ok {s : ByteArray} {m : M} (hok : m.Ok) (hw : m.why = 0) (hs : s.size ≤ 4294967296) : Both s m := by
  refine ⟨An s m [] 0 0, fun w0 mb h1 h2 h3 => scan_c h1 hok hw hs h2 h3, fun w0 mb h1 => scanR_c h1 hok hw hs, fun T h => ?_⟩
  have h1 := ans_ok _ _ _ _ h
  have h2 := ans_none _ _ _ _ h
  rw [List.nil_append] at h1
  have h3 : tks s = T := by
    unfold tks
    rw [h2, h1]
  rw [← h3]
  exact tks_short hs
end Go.Proofs.YthlbbinlkmchjaaDoor
namespace Go.Proofs.YthlbbinlkmchjaaDoor
open Go.RowKit

theorem Book.still' {W W' : World} {hb B : Nat} {es rs : List En} {f g : Nat} (h : Book W hb B es rs f g) (k : Only [] W W') : Book W' hb B es rs f g := by
  obtain ⟨vo, vw, vr, vq, h1, h2, h3, h4⟩ := h
  exact ⟨vo, vw, vr, vq, h1.still k, h2.keep k (by simp), h3.keep k (by simp), h4⟩
theorem Book.sep {W : World} {hb B : Nat} {es rs : List En} {f g : Nat} (h : Book W hb B es rs f g) : ∀ e ∈ es ++ rs, ∀ b, BS e b → b < W.heap.size := by
  obtain ⟨vo, vw, vr, vq, h1, h2, h3, h4⟩ := h
  intro e he b hb'
  rcases List.mem_append.1 he with he | he
  · exact (h2.bs e he b hb').2.lt
  · exact (h3.bs e he b hb').2.lt
theorem Book.hlt {W : World} {hb B : Nat} {es rs : List En} {f g : Nat} (h : Book W hb B es rs f g) : B ≤ W.heap.size := by
  obtain ⟨vo, vw, vr, vq, h1, -⟩ := h
  have := h1.c.lt
  have := h1.bb
  omega
/-- what the law's scan leaves -/
def BPost (W w' : World) (hb B : Nat) (es rs : List En) (fw gw : Nat) : Prop := ∃ es1 rs1, Book w' hb B es1 rs1 fw gw ∧ es1.length ≤ es.length + 1 ∧ rs1.length ≤ rs.length + 4294967296 ∧ FrT [27, 32, 44] B W w'

set_option maxRecDepth 100000 in
set_option maxHeartbeats 16000000 in
theorem bscan_no {W : World} {hb B : Nat} {es rs : List En} {fw gw : Nat} (hbk : Book W hb B es rs fw gw) (s : ByteArray) (st ce : Int) (h : st < 0 ∨ 0 ≤ st ∧ ce < 0) :
    Calls Tryd.prog 10 #[.pointer (some ⟨hb, 0, none⟩), .string s, .int .i64 st, .int .i64 ce] W fun e w' => e = .returned (.bool true) ∧ BPost W w' hb B es rs fw gw := by
  have H1 := hid (new_no st ce W h)
  have H2 := hid (newR_no st ce W h)
  have HB := hid hbk
  clear h hbk
  go_enter Tryd.func10, Tryd.ntmps10
  go_wp2_with fail
  refine H1.out.mono ?_
  rintro e w1 ⟨rfl, rfl⟩
  go_wp2_with fail
  refine H2.out.mono ?_
  rintro e w2 ⟨rfl, rfl⟩
  go_wp2_with fail
  go_ret
  exact ⟨rfl, es, rs, HB.out, by omega, by omega, FrT.refl _ _ _⟩

set_option maxRecDepth 100000 in
set_option maxHeartbeats 16000000 in
theorem bscan_yes {W : World} {hb B : Nat} {es rs : List En} {fw gw : Nat} (hbk : Book W hb B es rs fw gw) (hT : Tc W) (h3 : 3 ≤ B) (s : ByteArray) (st ce : Int) (h0 : 0 ≤ st ∧ st ≤ 9223372036854775807) (h1 : 0 ≤ ce ∧ ce ≤ 9223372036854775807)
    (hboth : ∀ m : M, m.Ok → Both s m) (hne : es.length ≤ 100000) (hnr : rs.length ≤ 100000000000) :
    Calls Tryd.prog 10 #[.pointer (some ⟨hb, 0, none⟩), .string s, .int .i64 st, .int .i64 ce] W fun e w' => e = .returned (.bool true) ∧ BPost W w' hb B es rs fw gw := by
  obtain ⟨m0, hm0⟩ : ∃ m : M, m = ⟨st, ce, 0, 0, 0, 0⟩ := ⟨_, rfl⟩
  have ok0 : m0.Ok := by rw [hm0]; constructor <;> simp only <;> omega
  have HN := hid (fun W => by have := new_yes st ce W h0.1 h1.1; rwa [← hm0] at this : ∀ W, Calls Tryd.prog 16 #[.int .i64 st, .int .i64 ce] W fun e w' => e = .returned (.tuple #[.pointer (some ⟨W.heap.size, 0, none⟩), .int .i64 0]) ∧ w' = W.alloc (.cells m0.cells.toArray 68))
  have HNR := hid (fun W => by have := newR_yes st ce W h0.1 h1.1; rwa [← hm0] at this : ∀ W, Calls Tryd.prog 24 #[.int .i64 st, .int .i64 ce] W fun e w' => e = .returned (.tuple #[.pointer (some ⟨W.heap.size, 0, none⟩), .int .i64 0]) ∧ w' = W.alloc (.cells m0.rcells.toArray 84))
  obtain ⟨m1, hm1⟩ : ∃ m, m0.step 1 = m := ⟨_, rfl⟩
  obtain ⟨m2, hm2⟩ : ∃ m, m1.hold 1 = m := ⟨_, rfl⟩
  obtain ⟨m3, hm3⟩ : ∃ m, m2.drop 1 = m := ⟨_, rfl⟩
  have ok1 : m1.Ok := hm1 ▸ M.step_ok ok0 1
  have ok2 : m2.Ok := hm2 ▸ M.hold_ok ok1 1
  have ok3 : m3.Ok := hm3 ▸ M.drop_ok ok2 1
  obtain ⟨b1, hb1⟩ : ∃ b, m0.stepOk 1 = b := ⟨_, rfl⟩
  obtain ⟨b2, hb2⟩ : ∃ b, m1.holdOk 1 = b := ⟨_, rfl⟩
  obtain ⟨b3, hb3⟩ : ∃ b, m2.dropOk 1 = b := ⟨_, rfl⟩
  have S1 := hid (fun b w h => step_any m0 ok0 b 1 w h)
  have S2 := hid (fun b w h => stepR_any m0 ok0 b 1 w h)
  have S3 := hid (fun b w h => hold_any m1 ok1 b 1 w h)
  have S4 := hid (fun b w h => holdR_any m1 ok1 b 1 w h)
  have S5 := hid (fun b w h => drop1_any m2 ok2 b w h)
  have S6 := hid (fun b w h => dropR1_any m2 ok2 b w h)
  rw [hb1, hm1] at S1 S2
  rw [hb2, hm2] at S3 S4
  rw [hb3, hm3] at S5 S6
  obtain ⟨o, hoS, hoR, hoB⟩ := hboth m3 ok3
  have HOS := hid hoS
  have HOR := hid hoR
  have HOB := hid hoB
  have HB := hid hbk
  have HT := hid hT
  have H3 := hid h3
  have HS := hid (And.intro hne hnr)
  have hsz : 3 ≤ W.heap.size := Nat.le_trans h3 hbk.hlt
  clear hm0 hm1 hm2 hm3 hb1 hb2 hb3 ok0 ok1 ok2 ok3 hoS hoR hoB hbk hT h3 hne hnr hboth h0 h1
  go_enter Tryd.func10, Tryd.ntmps10
  go_wp2_with fail
  refine (HN.out W).mono ?_
  rintro e w1 ⟨rfl, rfl⟩
  have M1 := hid (Blk.new W m0.cells.toArray 68 rfl)
  have O1 := hid (alloc_still W (.cells m0.cells.toArray 68))
  obtain ⟨mb, hmb⟩ : ∃ mb, W.heap.size = mb := ⟨_, rfl⟩
  obtain ⟨w1, hw1⟩ : ∃ w, W.alloc (.cells m0.cells.toArray 68) = w := ⟨_, rfl⟩
  have hs1 : w1.heap.size = mb + 1 := by rw [← hw1, ← hmb]; simp
  rw [hmb] at M1
  rw [hw1] at M1 O1
  rw [hmb, hw1]
  clear hw1
  go_wp2_with fail
  refine (HNR.out w1).mono ?_
  rintro e w2 ⟨rfl, rfl⟩
  have R2 := hid (Blk.new w1 m0.rcells.toArray 84 rfl)
  have O2 := hid (O1.out.trans (alloc_still w1 (.cells m0.rcells.toArray 84)))
  have M2 := hid (M1.out.alloc (.cells m0.rcells.toArray 84))
  obtain ⟨w2, hw2⟩ : ∃ w, w1.alloc (.cells m0.rcells.toArray 84) = w := ⟨_, rfl⟩
  rw [hs1] at R2
  rw [hw2] at R2 O2 M2
  rw [hs1, hw2]
  clear hw2 hs1 M1 O1
  have hne1 : mb + 1 ≠ mb := by omega
  have HMB := hid hmb
  clear hmb
  go_wp2_with fail
  refine (S1.out mb w2 M2.out).mono ?_
  rintro e w3 ⟨rfl, hm3, ho3⟩
  have M3 := hid hm3
  have R3 := hid (ho3.blk R2.out (by simp))
  have O3 : Hid (Only [] W w3) := hid (O2.out.fresh ho3 (fun i hi hlt => by have := HMB.out; simp at hi; omega))
  clear hm3 ho3 M2 R2 O2
  go_wp2_with fail
  refine (S2.out (mb + 1) w3 R3.out).mono ?_
  rintro e w4 ⟨rfl, hm4, ho4⟩
  have R4 := hid hm4
  have M4 := hid (ho4.blk M3.out (by simp))
  have O4 : Hid (Only [] W w4) := hid (O3.out.fresh ho4 (fun i hi hlt => by have := HMB.out; simp at hi; omega))
  clear hm4 ho4 M3 R3 O3
  go_wp2_with fail
  refine (S3.out mb w4 M4.out).mono ?_
  rintro e w5 ⟨rfl, hm5, ho5⟩
  have M5 := hid hm5
  have R5 := hid (ho5.blk R4.out (by simp))
  have O5 : Hid (Only [] W w5) := hid (O4.out.fresh ho5 (fun i hi hlt => by have := HMB.out; simp at hi; omega))
  clear hm5 ho5 M4 R4 O4
  go_wp2_with fail
  refine (S4.out (mb + 1) w5 R5.out).mono ?_
  rintro e w6 ⟨rfl, hm6, ho6⟩
  have R6 := hid hm6
  have M6 := hid (ho6.blk M5.out (by simp))
  have O6 : Hid (Only [] W w6) := hid (O5.out.fresh ho6 (fun i hi hlt => by have := HMB.out; simp at hi; omega))
  clear hm6 ho6 M5 R5 O5
  go_wp2_with fail
  refine (S5.out mb w6 M6.out).mono ?_
  rintro e w7 ⟨rfl, hm7, ho7⟩
  have M7 := hid hm7
  have R7 := hid (ho7.blk R6.out (by simp))
  have O7 : Hid (Only [] W w7) := hid (O6.out.fresh ho7 (fun i hi hlt => by have := HMB.out; simp at hi; omega))
  clear hm7 ho7 M6 R6 O6
  go_wp2_with fail
  refine (S6.out (mb + 1) w7 R7.out).mono ?_
  rintro e w8 ⟨rfl, hm8, ho8⟩
  have R8 := hid hm8
  have M8 := hid (ho8.blk M7.out (by simp))
  have O8 : Hid (Only [] W w8) := hid (O7.out.fresh ho8 (fun i hi hlt => by have := HMB.out; simp at hi; omega))
  clear hm8 ho8 M7 R7 O7
  go_wp2_with fail
  refine (HOS.out w8 mb M8.out (HT.out.only O8.out (by simp)) (by have := HMB.out; omega)).mono ?_
  rintro e w9 ⟨tv, xs, F, rfl, htl, hm9, hok9, ho9, hres⟩
  have M9 := hid hm9
  have R9 := hid (ho9.blk R8.out (by simp))
  have O9 : Hid (Only [] W w9) := hid (O8.out.fresh ho9 (fun i hi hlt => by have := HMB.out; simp at hi; omega))
  have T9 := hid htl
  have RES := hid hres
  obtain ⟨k, n⟩ := F
  have HB8 := hid (show mb + 1 < w8.heap.size from R8.out.lt)
  clear hm9 ho9 M8 R8 htl hres hok9
  go_wp2_with fail
  have F10 := hid (Blk.new w9 #[.int .i64 k, .int .i64 n] 35 rfl)
  have M10 := hid (M9.out.alloc (.cells #[.int .i64 k, .int .i64 n] 35))
  have R10 := hid (R9.out.alloc (.cells #[.int .i64 k, .int .i64 n] 35))
  have O10 := hid (O9.out.trans (alloc_still w9 (.cells #[.int .i64 k, .int .i64 n] 35)))
  have T10 := hid (T9.out.still (alloc_still w9 (.cells #[.int .i64 k, .int .i64 n] 35)))
  obtain ⟨fb, hfb⟩ : ∃ fb, w9.heap.size = fb := ⟨_, rfl⟩
  obtain ⟨w10, hw10⟩ : ∃ w, w9.alloc (.cells #[.int .i64 k, .int .i64 n] 35) = w := ⟨_, rfl⟩
  rw [hfb] at F10
  rw [hw10] at F10 M10 R10 O10 T10
  rw [hw10, hfb]
  clear hw10 hfb M9 R9 O9 T9
  go_wp2_with fail
  refine (HOR.out w10 (mb + 1) R10.out).mono ?_
  rintro e w11 ⟨tv2, xs2, F2, rfl, htl2, hr11, hok11, ho11, hres2⟩
  have R11 := hid hr11
  have M11 := hid (ho11.blk M10.out (by simp))
  have F11 := hid (ho11.blk F10.out (by simp; exact fun q => (Ty.blk R10.out).ne (by decide) (q ▸ Ty.blk F10.out)))
  have O11 : Hid (Only [] W w11) := hid (O10.out.fresh ho11 (fun i hi hlt => by have := HMB.out; simp at hi; omega))
  have T11 := hid ((FrT.of (ts := [84]) (B := 0) ho11 (by omega) (fun b hm => ⟨by omega, fun _ => ⟨84, by simp, by
    rw [List.mem_singleton.1 hm]; exact Ty.blk R10.out⟩⟩)).tl T10.out (by decide) (by decide))
  have U11 := hid htl2
  have RES2 := hid hres2
  have HEQ : Hid (F2 = (k, n) ∧ xs.map (·.1) = xs2.map (·.1)) := hid (by
    have h1 := RES.out
    have h2 := hres2
    rcases ho : o.2 with F' | T
    · rw [ho] at h1 h2
      exact ⟨h2.2.1.trans h1.2.1.symm, by rw [h1.1, h2.1]⟩
    · rw [ho] at h1 h2
      exact ⟨h2.2.trans h1.2.symm, by rw [h1.1, h2.1]⟩)
  have HSH : Hid ((xs.length ≤ 4294967296 ∧ ∀ x ∈ xs, x.1.ch.length ≤ 4294967296) ∧ (xs2.length ≤ 4294967296 ∧ ∀ x ∈ xs2, x.1.ch.length ≤ 4294967296)) := hid (by
    have h1 := RES.out
    have h2 := hres2
    have hb := HOB.out
    rcases ho : o.2 with F' | T
    · rw [ho] at h1 h2
      rw [h1.1, h2.1]
      simp
    · rw [ho] at h1 h2
      obtain ⟨q1, q2⟩ := hb T ho
      exact ⟨short_of h1.1 q1 q2, short_of h2.1 q1 q2⟩)
  obtain rfl := HEQ.out.1
  clear hr11 ho11 htl2 hres2 hok11 M10 R10 F10 O10 T10 RES RES2
  go_wp2_with fail
  have G12 := hid (Blk.new w11 #[.int .i64 k, .int .i64 n] 35 rfl)
  have M12 := hid (M11.out.alloc (.cells #[.int .i64 k, .int .i64 n] 35))
  have R12 := hid (R11.out.alloc (.cells #[.int .i64 k, .int .i64 n] 35))
  have F12 := hid (F11.out.alloc (.cells #[.int .i64 k, .int .i64 n] 35))
  have O12 := hid (O11.out.trans (alloc_still w11 (.cells #[.int .i64 k, .int .i64 n] 35)))
  have T12 := hid (T11.out.still (alloc_still w11 (.cells #[.int .i64 k, .int .i64 n] 35)))
  have U12 := hid (U11.out.still (alloc_still w11 (.cells #[.int .i64 k, .int .i64 n] 35)))
  obtain ⟨gb, hgb⟩ : ∃ gb, w11.heap.size = gb := ⟨_, rfl⟩
  obtain ⟨w12, hw12⟩ : ∃ w, w11.alloc (.cells #[.int .i64 k, .int .i64 n] 35) = w := ⟨_, rfl⟩
  rw [hgb] at G12
  rw [hw12] at G12 M12 R12 F12 O12 T12 U12
  rw [hw12, hgb]
  clear hw12 hgb M11 R11 O11 T11 U11 F11
  go_wp2_with fail
  have hsize : W.heap.size ≤ w8.heap.size := by have := HB8.out; have := HMB.out; omega
  refine (keep_c (HB.out.still' O12.out) T12.out (Nat.le_trans HB.out.hlt hsize) (fun e he b hb' => Nat.lt_of_lt_of_le (HB.out.sep e he b hb') hsize) (by have := HS.out.1; omega) (by have := HS.out.2; omega) HSH.out.1.1 HSH.out.1.2).mono ?_
  rintro e w13 ⟨rfl, e1, E, hbk13, hEl, hfr13⟩
  have B13 := hid hbk13
  have M13 := hid (hfr13.blk M12.out (by decide))
  have R13 := hid (hfr13.blk R12.out (by decide))
  have F13 := hid (hfr13.blk F12.out (by decide))
  have G13 := hid (hfr13.blk G12.out (by decide))
  have T13 := hid (hfr13.tl T12.out (by decide) (by decide))
  have U13 := hid (hfr13.tl U12.out (by decide) (by decide))
  have X13 : Hid (FrT [27, 32, 44] B W w13) := hid ((FrT.only O12.out HB.out.hlt).trans hfr13)
  have HEL := hid hEl
  clear hbk13 hEl hfr13 M12 R12 F12 G12 T12 U12 O12
  go_wp2_with fail
  refine (same_true xs xs2 tv tv2 w13 (T13.out.reads HSH.out.1) (U13.out.reads HSH.out.2) HEQ.out.2).mono ?_
  rintro e w14 ⟨rfl, ho14⟩
  have O14 := hid ho14
  have M14 := hid (ho14.blk M13.out (by simp))
  have R14 := hid (ho14.blk R13.out (by simp))
  have B14 := hid (B13.out.still' ho14)
  have f0 : w14.cell? ⟨fb, 0, none⟩ = some (.int .i64 k) := (ho14.blk F13.out (by simp)).cell 0
  have f1 : w14.cell? ⟨fb, 1, none⟩ = some (.int .i64 n) := (ho14.blk F13.out (by simp)).cell 1
  have g0 : w14.cell? ⟨gb, 0, none⟩ = some (.int .i64 k) := (ho14.blk G13.out (by simp)).cell 0
  have g1 : w14.cell? ⟨gb, 1, none⟩ = some (.int .i64 n) := (ho14.blk G13.out (by simp)).cell 1
  have hgd := guard35
  have q1 := eqlF k n k n
  simp only [BEq.rfl, Bool.and_self] at q1
  obtain ⟨m9, hm9⟩ : ∃ m, o.1 = m := ⟨_, rfl⟩
  rw [hm9] at M14 R14
  clear ho14 M13 R13 F13 G13 T13 U13 B13 hm9
  go_wp2_with fail
  refine (steps_any m9 mb w14 M14.out).mono ?_
  rintro e w14 ⟨rfl, rfl⟩
  go_wp2_with fail
  refine (stepsR_any m9 (mb + 1) w14 R14.out).mono ?_
  rintro e w14 ⟨rfl, rfl⟩
  go_wp2_with fail
  refine (held_any m9 mb w14 M14.out).mono ?_
  rintro e w14 ⟨rfl, rfl⟩
  go_wp2_with fail
  refine (heldR_any m9 (mb + 1) w14 R14.out).mono ?_
  rintro e w14 ⟨rfl, rfl⟩
  go_wp2_with fail
  refine (peak_any m9 mb w14 M14.out).mono ?_
  rintro e w14 ⟨rfl, rfl⟩
  go_wp2_with fail
  refine (peakR_any m9 (mb + 1) w14 R14.out).mono ?_
  rintro e w14 ⟨rfl, rfl⟩
  go_wp2_with fail
  refine (refused_any m9 mb w14 M14.out).mono ?_
  rintro e w14 ⟨rfl, rfl⟩
  go_wp2_with fail
  refine (refusedR_any m9 (mb + 1) w14 R14.out).mono ?_
  rintro e w14 ⟨rfl, rfl⟩
  go_wp2_with fail
  refine (holds_c B14.out (by have := HS.out.1; rw [List.length_append]; simp; omega) (by have := HS.out.2; have := HEL.out; have := HSH.out.1.1; rw [List.length_append]; omega)).mono ?_
  rintro e w15 ⟨rfl, ho15⟩
  have O15 := hid ho15
  clear ho15
  go_wp2_with fail
  go_ret
  refine ⟨rfl, es ++ [e1], rs ++ E, B14.out.still' O15.out, by rw [List.length_append]; simp, by have := HEL.out; have := HSH.out.1.1; rw [List.length_append]; omega, (X13.out.trans (FrT.only O14.out ?_)).trans (FrT.only O15.out B14.out.hlt)⟩
  exact Nat.le_trans HB.out.hlt X13.out.lo.size
end Go.Proofs.YthlbbinlkmchjaaDoor
