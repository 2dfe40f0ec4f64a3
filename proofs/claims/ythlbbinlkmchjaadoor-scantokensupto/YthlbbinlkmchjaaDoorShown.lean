/- great, shown: the document's examples. -/
import Derived.Test.YthlbbinlkmchjaaDoorText
namespace Go.Proofs.YthlbbinlkmchjaaDoor
open Go.RowKit

def gM : M := ⟨4611686018427387904, 4611686018427387904, 0, 0, 0, 0⟩
theorem gM_ok : gM.Ok := by constructor <;> decide
theorem great_c (w : World) : Calls Tryd.prog 12 #[] w fun e w' => e = .returned (.pointer (some ⟨w.heap.size, 0, none⟩)) ∧ w' = w.alloc (.cells gM.cells.toArray 68) := by
  have HN := hid (new_yes 4611686018427387904 4611686018427387904 w (by decide) (by decide))
  go_enter Tryd.func12, Tryd.ntmps12
  go_wp2_with fail
  refine HN.out.mono ?_
  rintro e w1 ⟨rfl, rfl⟩
  go_wp2
  go_ret
  exact ⟨rfl, rfl⟩
def S1 : ByteArray := ⟨#[60, 98, 114, 32, 47, 62]⟩
def S2 : ByteArray := ⟨#[38, 108, 120]⟩
def T1 : List Tk := [⟨1, 0, 3, [98, 114], [], false, []⟩, ⟨3, 4, 6, [], [], true, []⟩]
def m1 : M := ⟨4611686018427387904, 4611686018427387904, 6, 2, 2, 0⟩
def m2 : M := ⟨4611686018427387904, 4611686018427387904, 3, 0, 0, 0⟩
theorem an1 : An S1 gM [] 0 0 = (m1, .ok T1) := by kernel_rfl
theorem an2 : An S2 gM [] 0 0 = (m2, .error (71, 2)) := by kernel_rfl
theorem tx3 : textM [(97, 0, 0), (60, 0, 0), (173, 0, 0)] = some [97, 38, 108, 116, 59, 38, 115, 104, 121, 59] := by decide
theorem str3 : strN [97, 38, 108, 116, 59, 38, 115, 104, 121, 59] = ⟨#[97, 38, 108, 116, 59, 38, 115, 104, 121, 59]⟩ := by kernel_rfl
/-- the tokens of a list that was handed out are short -/
theorem short_of {xs : List (Tk × Tm)} {T : List Tk} (h : xs.map (·.1) = T) (h1 : T.length ≤ 4294967296) (h2 : ∀ t ∈ T, t.ch.length ≤ 4294967296) : xs.length ≤ 4294967296 ∧ ∀ x ∈ xs, x.1.ch.length ≤ 4294967296 := by
  subst h
  exact ⟨by simpa using h1, fun x hx => h2 x.1 (List.mem_map_of_mem hx)⟩

def litT : List (Tk × Tm) := [(⟨1, 0, 3, [98, 114], [], false, []⟩, ⟨⟨#[98, 114]⟩, ⟨#[]⟩, nilS⟩), (⟨3, 4, 6, [], [], true, []⟩, ⟨⟨#[]⟩, ⟨#[]⟩, nilS⟩)]
theorem lit_reads (w : World) : TR (w.alloc (.cells (litT.flatMap tmc).toArray 48)) (.slice (some ⟨w.heap.size, 0, none⟩) 2 2) litT := by
  refine ⟨⟨_, 2, rfl, sl_newest w _ 48 rfl⟩, fun x hx => ?_, by decide, fun x hx => ?_⟩
  · simp only [litT, List.mem_cons, List.not_mem_nil, or_false] at hx
    rcases hx with rfl | rfl
    · exact ⟨by decide, rfl, none, 0, rfl, Sl.nil⟩
    · exact ⟨rfl, rfl, none, 0, rfl, Sl.nil⟩
  · simp only [litT, List.mem_cons, List.not_mem_nil, or_false] at hx
    rcases hx with rfl | rfl <;> decide
theorem TL.meter {w w' : World} {B mb : Nat} {tv : Value} {xs : List (Tk × Tm)} {ys : List Value} (h : TL w B tv xs) (hb : Blk w mb ys 68) (k : Only [mb] w w') : TL w' B tv xs :=
  h.only k (fun b hb2 hm => by simp at hm; subst hm; exact row_not h.row hb (by decide) hb2) (fun b hb2 hm => by
    simp at hm; subst hm
    obtain ⟨x, hx, hxb⟩ := mem_cbs.1 hb2
    exact row_not (h.rel x hx).ch hb (by decide) hxb)
theorem TL.still {w w' : World} {B : Nat} {tv : Value} {xs : List (Tk × Tm)} (h : TL w B tv xs) (k : Only [] w w') : TL w' B tv xs :=
  h.only k (fun _ _ => by simp) (fun _ _ => by simp)
set_option maxRecDepth 100000 in
set_option maxHeartbeats 8000000 in
theorem shown_c {w : World} (hT : Tc w) : Calls Tryd.prog 9 #[] w fun e w' => e = .returned (.bool true) ∧ Only [] w w' := by
  have HT := hid hT
  have h3 := hid hT.tb.size
  have HSC := hid (fun W mb (s : ByteArray) (h : Blk W mb gM.cells 68) (hT : Tc W) (hs : s.size ≤ 4294967296) (hb : 3 ≤ mb) => scan_c h gM_ok rfl hs hT hb)
  clear hT
  go_enter Tryd.func9, Tryd.ntmps9
  go_wp2_with fail
  refine (great_c w).mono ?_
  rintro e w1 ⟨rfl, rfl⟩
  have HM1 := hid (Blk.new w gM.cells.toArray 68 rfl)
  have HO1 := hid ((Only.refl [] w).alloc (.cells gM.cells.toArray 68))
  obtain ⟨a, ha⟩ : ∃ a, w.heap.size = a := ⟨_, rfl⟩
  obtain ⟨W1, hW1⟩ : ∃ W1, w.alloc (.cells gM.cells.toArray 68) = W1 := ⟨_, rfl⟩
  rw [hW1] at HM1 HO1 ⊢
  rw [ha] at HM1 ⊢
  have h3a : 3 ≤ a := by rw [← ha]; exact h3.out
  have HA := hid ha
  have hS1 : (⟨#[60, 98, 114, 32, 47, 62]⟩ : ByteArray) = S1 := rfl
  clear hW1 ha
  go_wp2_with fail
  refine (HSC.out W1 a S1 HM1.out (HT.out.only HO1.out (by simp)) (by decide) h3a).mono ?_
  rintro e w2 ⟨tv, xs, F, rfl, htl, hbm, hmo, hon, hr⟩
  rw [an1] at hbm hr
  obtain ⟨hxs, rfl⟩ := hr
  have HTL := hid htl
  have HXS := hid hxs
  have HBM := hid hbm
  have HO2 : Hid (Only [] w w2) := hid (HO1.out.fresh hon (fun i hi hlt => by simp at hi; have := HA.out; omega))
  clear htl hbm hmo hon hxs
  simp only
  go_wp2_with fail
  have HF2 := hid (Blk.new w2 #[.int .i64 0, .int .i64 0] 35 rfl)
  have HO3 := hid (HO2.out.alloc (.cells #[.int .i64 0, .int .i64 0] 35))
  have HBM3 := hid (HBM.out.alloc (.cells #[.int .i64 0, .int .i64 0] 35))
  have HTL3 := hid (HTL.out.still ((Only.refl [] w2).alloc (.cells #[.int .i64 0, .int .i64 0] 35)))
  obtain ⟨f, hf⟩ : ∃ f, w2.heap.size = f := ⟨_, rfl⟩
  obtain ⟨W3, hW3⟩ : ∃ W3, w2.alloc (.cells #[.int .i64 0, .int .i64 0] 35) = W3 := ⟨_, rfl⟩
  rw [hW3] at HF2 HO3 HBM3 HTL3 ⊢
  rw [hf] at HF2 ⊢
  clear hW3 hf HBM HTL
  refine (great_c W3).mono ?_
  rintro e w4 ⟨rfl, rfl⟩
  have HN4 := hid (Blk.new W3 gM.cells.toArray 68 rfl)
  have HF4 := hid (HF2.out.alloc (.cells gM.cells.toArray 68))
  have HO4 := hid (HO3.out.alloc (.cells gM.cells.toArray 68))
  have HBM4 := hid (HBM3.out.alloc (.cells gM.cells.toArray 68))
  have HTL4 := hid (HTL3.out.still ((Only.refl [] W3).alloc (.cells gM.cells.toArray 68)))
  have hab : a < W3.heap.size := HBM3.out.lt
  have hfb : f < W3.heap.size := HF2.out.lt
  have hob := HO3.out.size
  obtain ⟨b, hb⟩ : ∃ b, W3.heap.size = b := ⟨_, rfl⟩
  obtain ⟨W4, hW4⟩ : ∃ W4, W3.alloc (.cells gM.cells.toArray 68) = W4 := ⟨_, rfl⟩
  rw [hW4] at HN4 HF4 HO4 HBM4 HTL4 ⊢
  rw [hb] at HN4 hab hfb hob ⊢
  have h3b : 3 ≤ b := by omega
  clear hW4 hb HF2 HO3 HBM3 HTL3
  have hS2 : (⟨#[38, 108, 120]⟩ : ByteArray) = S2 := rfl
  go_wp2_with fail
  refine (HSC.out W4 b S2 HN4.out (HT.out.only HO4.out (by simp)) (by decide) h3b).mono ?_
  rintro e w5 ⟨tv2, xs2, F, rfl, -, hbm, hmo, hon, hr⟩
  rw [an2] at hbm hr
  obtain ⟨rfl, rfl, rfl⟩ := hr
  have HF5 := hid (hon.blk HF4.out (by simp; omega))
  have HBM5 := hid (hon.blk HBM4.out (by simp; omega))
  have HTL5 := hid (HTL4.out.meter HN4.out hon)
  have HO5 : Hid (Only [] w w5) := hid (HO4.out.fresh hon (fun i hi hlt => by simp at hi; omega))
  clear hbm hmo hon HF4 HBM4 HTL4 HO4 hab hfb hob
  simp only
  go_wp2_with fail
  have HG6 := hid ((Blk.new w5 #[.int .i64 71, .int .i64 2] 35 rfl).alloc (.cells #[.int .i64 97, .int .i64 0, .int .i64 0, .int .i64 60, .int .i64 0, .int .i64 0, .int .i64 173, .int .i64 0, .int .i64 0] 50))
  have hk6 : Only [] w5 ((w5.alloc (.cells #[.int .i64 71, .int .i64 2] 35)).alloc (.cells #[.int .i64 97, .int .i64 0, .int .i64 0, .int .i64 60, .int .i64 0, .int .i64 0, .int .i64 173, .int .i64 0, .int .i64 0] 50)) := ((Only.refl _ _).alloc _).alloc _
  have HF6 := hid (hk6.blk HF5.out (by simp))
  have HBM6 := hid (hk6.blk HBM5.out (by simp))
  have HTL6 := hid (HTL5.out.still hk6)
  have HO6 := hid (HO5.out.trans hk6)
  have HSL := hid (sl_newest (n := 3) (w5.alloc (.cells #[.int .i64 71, .int .i64 2] 35)) [.int .i64 97, .int .i64 0, .int .i64 0, .int .i64 60, .int .i64 0, .int .i64 0, .int .i64 173, .int .i64 0, .int .i64 0] 50 (k := w5.heap.size + 1) (by simp))
  obtain ⟨g, hg⟩ : ∃ g, w5.heap.size = g := ⟨_, rfl⟩
  obtain ⟨W6, hW6⟩ : ∃ W6, (w5.alloc (.cells #[.int .i64 71, .int .i64 2] 35)).alloc (.cells #[.int .i64 97, .int .i64 0, .int .i64 0, .int .i64 60, .int .i64 0, .int .i64 0, .int .i64 173, .int .i64 0, .int .i64 0] 50) = W6 := ⟨_, rfl⟩
  rw [hW6] at HG6 HF6 HBM6 HTL6 HO6 ⊢
  rw [show (w5.alloc (.cells #[.int .i64 71, .int .i64 2] 35)).alloc (.cells [.int .i64 97, .int .i64 0, .int .i64 0, .int .i64 60, .int .i64 0, .int .i64 0, .int .i64 173, .int .i64 0, .int .i64 0].toArray 50) = W6 from hW6] at HSL
  rw [hg] at HG6 HSL ⊢
  clear hW6 hg hk6 HF5 HBM5 HTL5 HO5
  refine (text_c (l := [(97, 0, 0), (60, 0, 0), (173, 0, 0)]) HSL.out (HT.out.only HO6.out (by simp)) (by decide)).mono ?_
  rintro e w7 ⟨he, ho7⟩
  rw [tx3] at he
  subst he
  have HG7 := hid (ho7.blk HG6.out (by simp))
  have HF7 := hid (ho7.blk HF6.out (by simp))
  have HBM7 := hid (ho7.blk HBM6.out (by simp))
  have HTL7 := hid (HTL6.out.still ho7)
  have HO7 := hid (HO6.out.trans ho7)
  have hst := str3
  clear ho7 HG6 HF6 HBM6 HTL6 HO6 HSL
  unfold textV
  simp only
  have f0 : w7.cell? ⟨f, 0, none⟩ = some (.int .i64 0) := HF7.out.cell 0
  have f1 : w7.cell? ⟨f, 1, none⟩ = some (.int .i64 0) := HF7.out.cell 1
  have hgd := guard35
  have q1 := eqlF 0 0 0 0
  simp only [BEq.rfl, Bool.and_self] at q1
  go_wp2_with fail
  have HO8 := hid (HO7.out.alloc (.cells (litT.flatMap tmc).toArray 48))
  have HLT := hid (lit_reads w7)
  have HTR := hid ((HTL7.out.still ((Only.refl [] w7).alloc (.cells (litT.flatMap tmc).toArray 48))).reads (short_of HXS.out (by decide) (by decide)))
  have HG8 := hid (HG7.out.alloc (.cells (litT.flatMap tmc).toArray 48))
  have HBM8 := hid (HBM7.out.alloc (.cells (litT.flatMap tmc).toArray 48))
  refine (same_true xs litT _ _ _ HTR.out HLT.out (by rw [HXS.out]; rfl)).mono ?_
  rintro e w9 ⟨rfl, ho9⟩
  have HO9 := hid (HO8.out.trans ho9)
  have HBM9 := hid (ho9.blk HBM8.out (by simp))
  have hg9 := ho9.blk HG8.out (by simp)
  have g0 : w9.cell? ⟨g, 0, none⟩ = some (.int .i64 71) := hg9.cell 0
  have g1 : w9.cell? ⟨g, 1, none⟩ = some (.int .i64 2) := hg9.cell 1
  have q2 := eqlF 71 2 71 2
  simp only [BEq.rfl, Bool.and_self] at q2
  clear ho9 hg9 HG8 HBM8 HTR HO8 HG7 HBM7 HF7
  go_wp2_with fail
  refine (steps_any m1 a w9 HBM9.out).mono ?_
  rintro e w10 ⟨rfl, rfl⟩
  unfold m1
  simp only
  go_wp2_with fail
  refine (peak_any m1 a w10 HBM9.out).mono ?_
  rintro e w11 ⟨rfl, rfl⟩
  unfold m1
  simp only
  go_wp2_with fail
  go_ret
  exact ⟨rfl, HO9.out⟩
end Go.Proofs.YthlbbinlkmchjaaDoor
