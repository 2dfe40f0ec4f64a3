/- The cutter's markup; Scan. -/
import Derived.Test.YthlbbinlkmchjaaDoorTag
namespace Go.Proofs.YthlbbinlkmchjaaDoor
open Go.RowKit

def boolOf : Value → Bool
  | .bool b => b
  | _ => false
def sizeM (s : ByteArray) (cb : Nat) (v : Value) (w : World) : Nat := if boolOf v then sizeJ s cb 0 w + 1 else 0
theorem An_end {s : ByteArray} {m : M} (hm : m.Ok) (hw : m.why = 0) (T : List Tk) {q : Nat} (h : (rest s q).head? = none) (hq : q = s.size) : An s m T 0 q = (m, .ok T) := by
  unfold An
  rw [GS_nil0 h]
  simp only [ans]
  rw [show s.size - q = 0 by omega]
  obtain ⟨h1, h2⟩ := M.step_zero hm hw
  rw [if_pos (show m.stepOk ((0 : Nat) : Int) = true from h2), show m.step ((0 : Nat) : Int) = m from h1]
/-- the post of what cuts a whole markup -/
def PW (w0 w' : World) (cb mb : Nat) (s : ByteArray) (o : A) (e : Ending) : Prop :=
  (e = .returned (.bool true) ∧ ∃ xs m tv, Sc w0 w' cb mb s s.size m xs tv ∧ o = (m, .ok (xs.map (·.1)))) ∨
  (e = .returned (.bool false) ∧ ∃ m1 F, Cx w' cb mb s m1 F ∧ o = (m1, .error F) ∧ Only [mb] w0 w')

theorem PT.next_gt {w0 w w' : World} {cb mb : Nat} {s : ByteArray} {q : Nat} {m : M} {xs : List (Tk × Tm)} {tv : Value} (hs : Sc w0 w cb mb s q m xs tv) {P : Pz Tk} {e : Ending} (h : PT w0 w' cb mb s xs (finT (fo s m q P)) e) {o : A} (ho : tokA s m (xs.map (·.1)) q P = o) {kd : Nat} (hk : ∀ l t n, P l = .ok (t, n) → t.kd = kd)
    (hg : ∀ t n, P (rest s q) = .ok (t, n) → 1 ≤ n) :
    (e = .returned (.bool true) ∧ ∃ ys q' m' tv', Sc w0 w' cb mb s q' m' ys tv' ∧ An s m' (ys.map (·.1)) (if kd = 1 ∨ kd = 2 then 1 else 0) q' = o ∧ q < q') ∨
    (e = .returned (.bool false) ∧ ∃ m1 F, Cx w' cb mb s m1 F ∧ o = (m1, .error F) ∧ Only [mb] w0 w') := by
  unfold tokA at ho
  rcases hf : finT (fo s m q P) with ⟨m1, F | ⟨t, q'⟩⟩
  · rw [hf] at h ho
    exact .inr ⟨h.1, m1, F, h.2.1, ho.symm, h.2.2⟩
  · rw [hf] at h ho
    obtain ⟨m0, t0, h0, h1⟩ := finT_ok hf
    obtain ⟨n, hn, hq, -⟩ := fin_ok hs.cu.why h0
    have hkd := hk _ _ _ hn
    have hgn := hg _ _ hn
    obtain ⟨he, u, tv', hsc⟩ := h
    refine .inl ⟨he, _, _, _, tv', hsc, ?_, by omega⟩
    rw [← ho, List.map_append]
    show An s m1 _ _ q' = An s m1 _ (within t) q'
    unfold within
    rw [h1, hkd]
    rfl
set_option maxRecDepth 100000 in
set_option maxHeartbeats 8000000 in
theorem markup_c {w0 w : World} {cb mb : Nat} {s : ByteArray} {m : M} {tv : Value} (h : Sc w0 w cb mb s 0 m [] tv) :
    Calls Tryd.prog 40 #[.pointer (some ⟨cb, 0, none⟩)] w fun e w' => PW w0 w' cb mb s (An s m [] 0 0) e := by
  have HS := hid h
  obtain ⟨o, ho⟩ : ∃ o, An s m [] 0 0 = o := ⟨_, rfl⟩
  rw [ho]
  have HO := hid ho
  clear h ho
  go_enter Tryd.func40, Tryd.ntmps40
  go_wp2
  go_step3
  go_wp2
  go_step3
  go_wp2
  go_loopw [3] (fun v wr => (v = .bool true ∧ ∃ q xs m tv, Sc w0 wr cb mb s q m xs tv ∧ An s m (xs.map (·.1)) 0 q = o) ∨ (v = .bool false ∧ ∃ m1 F, Cx wr cb mb s m1 F ∧ o = (m1, .error F) ∧ Only [mb] w0 wr)) (fun v wr => sizeM s cb v wr)
  case atStart => exact .inl ⟨rfl, 0, [], m, tv, HS.out, HO.out⟩
  case round =>
    rcases hrel with ⟨rfl, q, xs, m', tv', hs, hoo⟩ | ⟨rfl, m1, F, hx, hoo, ho⟩
    · have HS' := hid hs
      obtain ⟨b, hb⟩ : ∃ b, (rest s q).head? = b := ⟨_, rfl⟩
      obtain ⟨a, ha⟩ : ∃ a, aheadI b = a := ⟨_, rfl⟩
      have HA := hid (ahead_any hs.cu)
      rw [hb, ha] at HA
      have HB := hid hb
      have HOO := hid hoo
      have HSZ : Hid (sizeM s cb (.bool true) wr = 2 * (s.size - q) + 1) := by
        show sizeJ s cb 0 wr + 1 = _
        rw [sizeJ_at hs.cu]; rfl
      have ways : (a = -1 ∧ b = none) ∨ (a = 60 ∧ b = some 60) ∨ (¬ a = -1 ∧ ¬ a = 60 ∧ ∃ c, b = some c ∧ c ≠ 60) := by
        rw [← ha]
        rcases b with _ | c
        · exact .inl ⟨rfl, rfl⟩
        · simp only [aheadI]
          by_cases h1 : c = 60
          · exact .inr (.inl ⟨by omega, by rw [h1]⟩)
          · exact .inr (.inr ⟨by omega, by omega, c, rfl, h1⟩)
      clear hs hoo hb ha
      rcases ways with ⟨h1, hb⟩ | ⟨h1, hb⟩ | ⟨h1, h2, c, hb, hc⟩
      · subst h1
        have hq : q = s.size := by
          rcases HS'.out.cu.nil_or with ⟨_, c, _, h2, _⟩ | ⟨h2, _⟩
          · rw [HB.out, hb] at h2; cases h2
          · exact h2
        subst hq
        have hfin : o = (m', .ok (xs.map (·.1))) := by rw [← HOO.out]; exact An_end HS'.out.cu.ok HS'.out.cu.why _ (HB.out.trans hb) rfl
        go_wp2_with fail
        refine HA.out.mono ?_
        rintro e w1 ⟨rfl, n, rfl⟩
        go_wp2
        rw [Exit.noGoto_ret]
        go_ret
        exact .inl ⟨rfl, xs, m', tv', HS'.out.still (only_drewN _ n), hfin⟩
      · subst h1
        have HT := hid (fun n => tag_c (HS'.out.still (only_drewN wr n)) (HB.out.trans hb))
        go_wp2_with fail
        refine HA.out.mono ?_
        rintro e w1 ⟨rfl, n, rfl⟩
        go_wp2_with fail
        refine (HT.out n).mono ?_
        rintro e w2 (⟨rfl, ys, q', m2, tv2, h1, h2, h3⟩ | ⟨rfl, m1, F, h1, h2, h3⟩)
        · go_wp2
          go_roundw
          case rel => exact .inl ⟨rfl, q', ys, m2, tv2, h1, h2.trans HOO.out⟩
          case measure =>
            rw [HSZ.out]
            show sizeJ s cb 0 w2 + 1 < _
            rw [sizeJ_at h1.cu]
            have := h1.cu.le
            simp only [show ¬ (0 : Nat) = 2 by decide, if_false]
            omega
        · go_wp2
          go_roundw
          case rel => exact .inr ⟨rfl, m1, F, h1, HOO.out.symm.trans h2, h3⟩
          case measure => rw [HSZ.out]; show 0 < _; omega
      · have hno : ¬ ((rest s q).head? = none ∨ (rest s q).head? = some 60) := by
          rw [HB.out, hb]; simp; exact hc
        have hpart : part 0 q c = some (txtP q) := by unfold part; rw [if_pos rfl, if_neg hc]
        have hap := An_part (s := s) (m := m') (xs.map (·.1)) (HB.out.trans hb) hpart
        have HAP : Hid (tokA s m' (xs.map (·.1)) q (txtP q) = o) := by
          have := HOO.out
          rw [hap] at this
          exact this
        have HT := hid (fun n => characters_c (HS'.out.still (only_drewN wr n)) hno)
        have hgt : ∀ t n, txtP q (rest s q) = .ok (t, n) → 1 ≤ n := fun t n h => goes_txt (HB.out.trans hb) hc h
        have HGT := hid hgt
        have e1 : (a == -1) = false := by simpa using h1
        have e2 : (a == 60) = false := by simpa using h2
        clear hno hpart hap hb hgt
        go_wp2_with fail
        refine HA.out.mono ?_
        rintro e w1 ⟨rfl, n, rfl⟩
        go_wp2_with fail
        refine (HT.out n).mono ?_
        rintro e w2 hp
        have hp2 := PT.next_gt (HS'.out.still (only_drewN wr n)) hp HAP.out (kd := 5) (fun _ _ _ h => txt_kd h) HGT.out
        clear hp
        rcases hp2 with ⟨rfl, ys, q', m2, tv2, h1, h2, h3⟩ | ⟨rfl, m1, F, h1, h2, h3⟩
        · go_wp2
          go_roundw
          case rel => exact .inl ⟨rfl, q', ys, m2, tv2, h1, h2⟩
          case measure =>
            rw [HSZ.out]
            show sizeJ s cb 0 w2 + 1 < _
            rw [sizeJ_at h1.cu]
            have := h1.cu.le
            simp only [show ¬ (0 : Nat) = 2 by decide, if_false]
            omega
        · go_wp2
          go_roundw
          case rel => exact .inr ⟨rfl, m1, F, h1, h2, h3⟩
          case measure => rw [HSZ.out]; show 0 < _; omega
    · go_wp2
      rw [Exit.noGoto_ret]
      go_ret
      exact .inr ⟨rfl, m1, F, hx, hoo, ho⟩

theorem TL.base {w : World} {B B' : Nat} {tv : Value} {xs : List (Tk × Tm)} (h : TL w B tv xs) (hB : B' ≤ B) : TL w B' tv xs :=
  ⟨row_base h.row hB, fun x hx => ⟨(h.rel x hx).nm, (h.rel x hx).vl, row_base (h.rel x hx).ch hB⟩, h.ap⟩
/-- what Scan answers: the tokens, or the fault -/
def ScanPost (w0 w' : World) (mb : Nat) (o : A) (e : Ending) : Prop :=
  ∃ tv xs F, e = .returned (.tuple #[tv, .agg #[.int .i64 F.1, .int .i64 F.2]]) ∧ TL w' w0.heap.size tv xs ∧ Blk w' mb o.1.cells 68 ∧ o.1.Ok ∧ Only [mb] w0 w' ∧
    (match o.2 with
      | .ok T => xs.map (·.1) = T ∧ F = (0, 0)
      | .error F' => xs = [] ∧ F = F' ∧ tv = nilS)

set_option maxRecDepth 100000 in
set_option maxHeartbeats 8000000 in
theorem scan_c {w0 : World} {mb : Nat} {s : ByteArray} {m : M} (hm : Blk w0 mb m.cells 68) (hok : m.Ok) (hw : m.why = 0) (hs : s.size ≤ 4294967296) (hT : Tc w0) (h3 : 3 ≤ mb) :
    Calls Tryd.prog 13 #[.pointer (some ⟨mb, 0, none⟩), .string s] w0 fun e w' => ScanPost w0 w' mb (An s m [] 0 0) e := by
  have hlt := hm.lt
  have hsc : Sc (w0.alloc (.cells #[.int .i64 0, .int .i64 0] 35)) ((w0.alloc (.cells #[.int .i64 0, .int .i64 0] 35)).alloc (.cells #[.pointer (some ⟨mb, 0, none⟩), .string s, .int .i64 0, .slice none 0 0, .int .i64 0, .int .i64 0] 64)) (w0.heap.size + 1) mb s 0 m [] (.slice none 0 0) := by
    refine ⟨⟨?_, (hm.alloc _).alloc _, by omega, hok, hw, by omega, hs⟩, ⟨World.ownsRow_nil _ _ _ _, fun x hx => (by cases hx), List.nodup_nil⟩, (Only.refl _ _).alloc _, by simp, by simp, hT.alloc _, h3⟩
    exact Blk.new _ _ 64 (by simp)
  have HM := hid (markup_c hsc)
  have hb5 := Blk.new w0 #[.int .i64 0, .int .i64 0] 35 rfl
  have HB5 := hid hb5
  have HSC := hid hsc
  obtain ⟨o, ho⟩ : ∃ o, An s m [] 0 0 = o := ⟨_, rfl⟩
  rw [ho] at HM ⊢
  have hltI : ¬ mb = w0.heap.size := by omega
  clear hsc hb5 hm ho
  go_enter Tryd.func13, Tryd.ntmps13
  go_wp2_with fail
  refine HM.out.mono ?_
  rintro e w1 (⟨rfl, xs, m1, tv, h1, h2⟩ | ⟨rfl, m1, F, h1, h2, h3⟩)
  · have H1 := hid h1
    have H2 := hid h2
    have hk5 := h1.fr.blk HB5.out (by simp; omega)
    have HK5 := hid hk5
    have f0 := hk5.froz 0
    have f1 := hk5.froz 1
    have e0 := hk5.cell 0
    have e1 := hk5.cell 1
    simp only [List.getElem?_cons_zero, List.getElem?_cons_succ] at e0 e1
    have c3 : w1.cell? ⟨w0.heap.size + 1, 3, none⟩ = some tv := h1.cu.c.cell 3
    clear h1 h2 hk5
    go_wp2_with fail
    have hB2 := (HK5.out.set 0 (.int .i64 0)).set 1 (.int .i64 0)
    have g0 := hB2.cell 0
    have g1 := hB2.cell 1
    simp only [List.set_cons_zero, List.set_cons_succ, List.getElem?_cons_zero, List.getElem?_cons_succ] at g0 g1
    have hOn : Only [w0.heap.size] w1 ((w1.setCell ⟨w0.heap.size, 0, none⟩ (.int .i64 0)).setCell ⟨w0.heap.size, 1, none⟩ (.int .i64 0)) := ((Only.refl _ _).set (p := ⟨w0.heap.size, 0, none⟩) (.inl (by simp)) _).set (p := ⟨w0.heap.size, 1, none⟩) (.inl (by simp)) _
    refine bodyPost_ret (v := .tuple #[tv, .agg #[.int .i64 0, .int .i64 0]]) ?_ rfl ⟨tv, xs, (0, 0), rfl, ?_, ?_, ?_, ?_, ?_⟩
    · simp [results, Tryd.f13, go_sem, g0, g1]
    · refine (H1.out.tl.only hOn (fun b hb hm => ?_) (fun b hb hm => ?_)).base (by simp)
      · have := (row_ge H1.out.tl.row b hb).1
        simp at hm this; omega
      · obtain ⟨x, hx, hxb⟩ := mem_cbs.1 hb
        have := (row_ge (H1.out.tl.rel x hx).ch b hxb).1
        simp at hm this; omega
    · rw [H2.out]
      exact hOn.blk H1.out.cu.mt (by simpa using hltI)
    · rw [H2.out]; exact H1.out.cu.ok
    · exact (((Only.behind ((Only.refl [] w0).alloc _) H1.out.fr).set (p := ⟨w0.heap.size, 0, none⟩) (.inr (Nat.le_refl _)) _).set (p := ⟨w0.heap.size, 1, none⟩) (.inr (Nat.le_refl _)) _)
    · rw [H2.out]; exact ⟨rfl, rfl⟩
  · have HX := hid h1
    have H2 := hid h2
    have H3 := hid h3
    obtain ⟨p', v', hcb⟩ := h1.c
    have hk5 := h3.blk HB5.out (by simp; omega)
    have HK5 := hid hk5
    have f0 := hk5.froz 0
    have f1 := hk5.froz 1
    have e0 := hk5.cell 0
    have e1 := hk5.cell 1
    simp only [List.getElem?_cons_zero, List.getElem?_cons_succ] at e0 e1
    have c4 : w1.cell? ⟨w0.heap.size + 1, 4, none⟩ = some (.int .i64 F.1) := hcb.cell 4
    have c5 : w1.cell? ⟨w0.heap.size + 1, 5, none⟩ = some (.int .i64 F.2) := hcb.cell 5
    clear h1 h2 h3 hk5 hcb
    go_wp2_with fail
    go_region
    go_wp2_with fail
    have hB2 := ((HK5.out.set 0 (.int .i64 F.1)).set 1 (.int .i64 F.2)).drew
    have g0 := hB2.cell 0
    have g1 := hB2.cell 1
    simp only [List.set_cons_zero, List.set_cons_succ, List.getElem?_cons_zero, List.getElem?_cons_succ] at g0 g1
    have hOn : Only [w0.heap.size] w1 ((w1.setCell ⟨w0.heap.size, 0, none⟩ (.int .i64 F.1)).setCell ⟨w0.heap.size, 1, none⟩ (.int .i64 F.2)).drew := (((Only.refl _ _).set (p := ⟨w0.heap.size, 0, none⟩) (.inl (by simp)) _).set (p := ⟨w0.heap.size, 1, none⟩) (.inl (by simp)) _).drew
    refine bodyPost_ret (v := .tuple #[nilS, .agg #[.int .i64 F.1, .int .i64 F.2]]) ?_ rfl ⟨nilS, [], F, rfl, ?_, ?_, ?_, ?_, ?_⟩
    · simp [results, Tryd.f13, go_sem, g0, g1, nilS]
    · exact ⟨World.ownsRow_nil _ _ _ _, fun x hx => (by cases hx), List.nodup_nil⟩
    · rw [H2.out]
      exact hOn.blk HX.out.mt (by simpa using hltI)
    · rw [H2.out]; exact HX.out.ok
    · exact (((Only.behind ((Only.refl [] w0).alloc _) H3.out).set (p := ⟨w0.heap.size, 0, none⟩) (.inr (Nat.le_refl _)) _).set (p := ⟨w0.heap.size, 1, none⟩) (.inr (Nat.le_refl _)) _).drew
    · rw [H2.out]; exact ⟨rfl, rfl, rfl⟩
end Go.Proofs.YthlbbinlkmchjaaDoor
