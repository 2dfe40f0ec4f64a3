/- The reference's Get. -/
import Derived.Test.YtdinlaoimpoolaaRefGet0
import Derived.Deep.Cut
import Derived.Deep.CutRange
import Derived.Deep.CutBlock
namespace Go.Proofs.Ytdinlaoimpoolaa
open Go.RowKit

/-- what the reference answers -/
def GotR (w : World) (mb : Nat) (res : M × ((Int × Nat) ⊕ St)) (e : Ending) (w' : World) : Prop :=
  Only [mb] w w' ∧ Blk w' mb res.1.rcells 74 ∧ (match res.2 with
    | .inl x => e = .returned (.tuple #[.agg #[.int .i64 0, .slice none 0 0, .slice none 0 0], .agg #[.int .i64 x.1, .int .i64 x.2]])
    | .inr s => ∃ gv pv, e = .returned (.tuple #[.agg #[.int .i64 s.em, gv, pv], .agg #[.int .i64 0, .int .i64 0]]) ∧ w'.ownsRow w.heap.size 33 4 gv s.gs.length (s.gs.flatMap cg) ∧ w'.ownsRow w.heap.size 35 5 pv s.ps.length (s.ps.flatMap cp))
theorem PF_at (k : Nat) : (k = 0 → (⟨#[80, 70, 49]⟩ : ByteArray)[0]?.isSome) := fun _ => rfl
set_option maxRecDepth 100000 in
set_option maxHeartbeats 16000000 in
theorem getR_any (b : ByteArray) (m : M) (mb : Nat) (w : World) (hm : m.Ok) (hM : Blk w mb m.rcells 74) (hsz : b.size ≤ 9223372036854775807) :
    Calls Try.prog 16 #[.pointer (some ⟨mb, 0, none⟩), .string b] w (GotR w mb (getM m st0 0 (bl b))) := by
  obtain ⟨RES, hRES⟩ : ∃ RES, getM m st0 0 (bl b) = RES := ⟨_, rfl⟩
  rw [hRES]
  obtain ⟨h, hh⟩ : ∃ h, w.heap.size = h := ⟨_, rfl⟩
  have HH := hid hh
  have HSZ := hid hsz
  have HMB : Hid (mb < h) := hid (by rw [← hh]; exact hM.lt)
  have HGB : Hid (GB w (h + 1 + 1) mb h (h + 1 + 1 + 1) h (h + 1) 0 (.slice none 0 0) (.slice none 0 0) ((((w.alloc (.cells #[.int .i64 0, .slice none 0 0, .slice none 0 0] 25)).alloc (.cells #[.int .i64 0, .int .i64 0] 44)).alloc (.cells #[.pointer (some ⟨mb, 0, none⟩), .string b, .int .i64 0, .int .i64 0, .int .i64 0] 87)).alloc (.cells #[.int .i64 0, .slice none 0 0, .slice none 0 0] 25))) :=
    hid ⟨((((Only.refl [mb] w).alloc _).alloc _).alloc _).alloc _, Blk.new (((w.alloc _).alloc _).alloc _) _ 25 (by simp [hh]), (((Blk.new w _ 25 hh).alloc _).alloc _).alloc _, ((Blk.new (w.alloc _) _ 44 (by simp [hh])).alloc _).alloc _, by omega⟩
  have HT0 : Hid (TA (h + 1 + 1) mb b RES st0 ((((w.alloc (.cells #[.int .i64 0, .slice none 0 0, .slice none 0 0] 25)).alloc (.cells #[.int .i64 0, .int .i64 0] 44)).alloc (.cells #[.pointer (some ⟨mb, 0, none⟩), .string b, .int .i64 0, .int .i64 0, .int .i64 0] 87)).alloc (.cells #[.int .i64 0, .slice none 0 0, .slice none 0 0] 25))) :=
    hid (.inl ⟨0, m, ⟨(Blk.new ((w.alloc _).alloc _) _ 87 (by simp [hh])).alloc _, (((hM.alloc _).alloc _).alloc _).alloc _⟩, hm, Nat.zero_le _, by rw [List.drop_zero]; exact hRES, fun _ => by rw [List.take_zero]; rfl, rfl, rfl⟩)
  have HBK : Hid (Blk w mb m.rcells 74) := hid hM
  clear hRES hm hM hsz
  go_enter Try.func16, Try.ntmps16
  go_wp2_with fail
  obtain ⟨W0, hW0⟩ : ∃ W0, ((((w.alloc (.cells #[.int .i64 0, .slice none 0 0, .slice none 0 0] 25)).alloc (.cells #[.int .i64 0, .int .i64 0] 44)).alloc (.cells #[.pointer (some ⟨mb, 0, none⟩), .string b, .int .i64 0, .int .i64 0, .int .i64 0] 87)).alloc (.cells #[.int .i64 0, .slice none 0 0, .slice none 0 0] 25)) = W0 := ⟨_, rfl⟩
  rw [hW0] at HGB HT0 ⊢
  obtain ⟨r, hr⟩ : ∃ r, h + 1 + 1 = r := ⟨_, rfl⟩
  obtain ⟨fo, hfo⟩ : ∃ fo, h + 1 + 1 + 1 = fo := ⟨_, rfl⟩
  obtain ⟨z5, hz5⟩ : ∃ z5, h + 1 = z5 := ⟨_, rfl⟩
  rw [hfo, hr, hz5] at HGB ⊢
  rw [hr] at HT0
  have HLT : Hid (h < fo ∧ z5 < fo ∧ fo ≠ r ∧ h < z5) := hid (by omega)
  clear hW0 hr hfo hz5
  go_loopw [8] (fun vi wr => ∃ (k : Nat) (s : St), vi = .int .i64 k ∧ k ≤ 3 ∧ s.nx = k ∧ s.gs = [] ∧ s.ps = [] ∧ s.nu = 0 ∧ GB w r mb h fo h z5 0 (.slice none 0 0) (.slice none 0 0) wr ∧ TA r mb b RES s wr) (fun vi _ => 3 - (RowKit.intOf vi).toNat)
  case atStart => exact ⟨0, st0, rfl, Nat.zero_le _, rfl, rfl, rfl, rfl, HGB.out, HT0.out⟩
  case round =>
    obtain ⟨k, s, rfl, hk, hnx, hgs, hps, hnu, hgb, hta⟩ := hrel
    have HG := hid hgb
    have HT := hid hta
    have HS := hid (And.intro hnx (And.intro hgs (And.intro hps hnu)))
    clear hnx hgs hps hnu hgb hta HGB HT0
    by_cases hlt : k < 3
    · have hlt' : (k : Int) < 3 := by omega
      have hk0 : (0 : Int) ≤ (k : Int) := by omega
      have HKL := hid hlt
      go_wp2_with fail
      rw [show (1 : Int) = ((1 : Nat) : Int) from rfl]
      refine (number_k r mb b RES s 1 (by rw [HS.out.1]; rcases (show k = 0 ∨ k = 1 ∨ k = 2 by omega) with e | e | e <;> rw [e] <;> rfl) (by rw [HS.out.1]; omega) HSZ.out wr HT.out).mono ?_
      rintro e Wa ⟨c, rfl, hc, hoa, hka, hta⟩
      have HGa := hid (HG.out.read HT.out.blocks hoa)
      have HTa := hid hta
      clear hc hoa hka hta HG HT
      have h012 := fits012 (s := s) c
      have HX : Hid (s.nx ≠ 15) := hid (by rw [HS.out.1]; omega)
      have HMK := hid (fun ok h => must_k r mb b RES s c ok Wa HX.out HSZ.out HTa.out h)
      have HF := hid h012
      clear h012
      have hway : ∀ (ok : Bool), ok = fits (read s (sz s.nx) c) c → True := fun _ _ => trivial
      clear hway hlt
      rcases (show k = 0 ∨ k = 1 ∨ k = 2 by have := HKL.out; omega) with rfl | rfl | rfl
      all_goals go_wp2_with fail
      · refine (must_k r mb b RES s c _ Wa HX.out HSZ.out HTa.out (fun _ => by
          rw [HF.out.1 HS.out.1]
          have e : wrap64 (((⟨#[80, 70, 49]⟩ : ByteArray)[0]'(by decide)).toNat : Int) = 80 := by kernel_rfl
          rw [e, Bool.eq_iff_iff]; simp; omega)).mono ?_
        rintro e Wm ⟨rfl, hom, hkm, htm⟩
        have HGm := hid (HGa.out.read HTa.out.blocks hom)
        have HTm := hid htm
        clear hom hkm htm
        go_wp2_with fail
        have hg := g1_hd (s := s) (by rw [HS.out.1]; decide) c
        exact ⟨⟨1, g1 s c, by go_num, by omega, by rw [hg.1, HS.out.1], by rw [hg.2.1, HS.out.2.1], by rw [hg.2.2, HS.out.2.2.1], rfl, HGm.out, HTm.out⟩, by simp [RowKit.intOf]⟩
      · refine (must_k r mb b RES s c _ Wa HX.out HSZ.out HTa.out (fun _ => by
          rw [HF.out.2.1 HS.out.1]
          have e : wrap64 (((⟨#[80, 70, 49]⟩ : ByteArray)[1]'(by decide)).toNat : Int) = 70 := by kernel_rfl
          rw [e, Bool.eq_iff_iff]; simp; omega)).mono ?_
        rintro e Wm ⟨rfl, hom, hkm, htm⟩
        have HGm := hid (HGa.out.read HTa.out.blocks hom)
        have HTm := hid htm
        clear hom hkm htm
        go_wp2_with fail
        have hg := g1_hd (s := s) (by rw [HS.out.1]; decide) c
        exact ⟨⟨2, g1 s c, by go_num, by omega, by rw [hg.1, HS.out.1], by rw [hg.2.1, HS.out.2.1], by rw [hg.2.2, HS.out.2.2.1], rfl, HGm.out, HTm.out⟩, by simp [RowKit.intOf]⟩
      · refine (must_k r mb b RES s c _ Wa HX.out HSZ.out HTa.out (fun _ => by
          rw [HF.out.2.2 HS.out.1]
          have e : wrap64 (((⟨#[80, 70, 49]⟩ : ByteArray)[2]'(by decide)).toNat : Int) = 49 := by kernel_rfl
          rw [e, Bool.eq_iff_iff]; simp; omega)).mono ?_
        rintro e Wm ⟨rfl, hom, hkm, htm⟩
        have HGm := hid (HGa.out.read HTa.out.blocks hom)
        have HTm := hid htm
        clear hom hkm htm
        go_wp2_with fail
        have hg := g1_hd (s := s) (by rw [HS.out.1]; decide) c
        exact ⟨⟨3, g1 s c, by go_num, by omega, by rw [hg.1, HS.out.1], by rw [hg.2.1, HS.out.2.1], by rw [hg.2.2, HS.out.2.2.1], rfl, HGm.out, HTm.out⟩, by simp [RowKit.intOf]⟩
    · obtain rfl : k = 3 := by omega
      clear hlt hk
      go_wp2_with fail
      -- the em
      rw [show (2 : Int) = ((2 : Nat) : Int) from rfl]
      refine (number_k r mb b RES s 2 (by rw [HS.out.1]; rfl) (by rw [HS.out.1]; decide) HSZ.out wr HT.out).mono ?_
      rintro e Wa ⟨x, rfl, hx, hoa, hka, hta⟩
      have hxi : (x : Int) ≤ 4294967295 := by omega
      have HGa := hid (HG.out.read HT.out.blocks hoa)
      have HTa := hid hta
      have c0 : Wa.cell? ⟨fo, 0, none⟩ = some (.int .i64 0) := HGa.out.fb.cell 0
      have f0 := HGa.out.fb.froz 0
      clear hx hoa hka hta HG HT
      have HGb : Hid (GB w r mb h fo h z5 (x : Int) (.slice none 0 0) (.slice none 0 0) (Wa.setCell ⟨fo, 0, none⟩ (.int .i64 (x : Int)))) := hid (HGa.out.setf (.int .i64 (x : Int)) rfl HLT.out.2.1)
      have HTb : Hid (TP r mb b RES s x (Wa.setCell ⟨fo, 0, none⟩ (.int .i64 (x : Int)))) := hid (HTa.out.set HGa.out.fb (by decide) (by decide) _)
      have HMK := hid (must_k r mb b RES s x (decide (1 ≤ (x : Int)) && decide ((x : Int) ≤ 16384)) _ (by rw [HS.out.1]; decide) HSZ.out HTb.out (fun _ => by
        rw [fits3 HS.out.1]
        rw [show decide (1 ≤ (x : Int)) = decide (1 ≤ x) from decide_eq_decide.2 (by omega), show decide ((x : Int) ≤ 16384) = decide (x ≤ 16384) from decide_eq_decide.2 (by omega)]))
      have c1 : (Wa.setCell ⟨fo, 0, none⟩ (.int .i64 (x : Int))).cell? ⟨fo, 0, none⟩ = some (.int .i64 (x : Int)) := HGb.out.fb.cell 0
      go_upto_region 9 with fail
      obtain ⟨Wb, hWb⟩ : ∃ Wb, Wa.setCell ⟨fo, 0, none⟩ (.int .i64 (x : Int)) = Wb := ⟨_, rfl⟩
      rw [hWb] at HGb HTb HMK c1 ⊢
      clear hWb c0 f0 HGa HTa
      go_cut [] from 38 to 47 (fun wx => GB w r mb h fo h z5 (x : Int) (.slice none 0 0) (.slice none 0 0) wx ∧ TA r mb b RES (g1 s x) wx)
      case first =>
        rcases hk1 : decide (1 ≤ (x : Int)) with _ | _
        all_goals
          have hk2 : decide ((1 : Int) ≤ (x : Int)) = decide (1 ≤ x) := decide_eq_decide.2 (by omega)
          have hk3 := hk2.symm.trans hk1
          simp only [hk1, Bool.false_and, Bool.true_and] at HMK
          clear hk2
          go_wp2_with fail
          refine HMK.out.mono ?_
          rintro e' Wm ⟨rfl, hom, hkm, htm⟩
          have HQ := hid (And.intro (HGb.out.read HTb.out.blocks hom) htm)
          clear hom hkm htm
          go_wp2_with fail
          go_meet
          exact HQ.out
      case rest =>
      obtain ⟨hgb, hta⟩ := hcut
      have HS4 := hid (g1_3 HS.out.1 HS.out.2.2.2 x)
      have HG := hid hgb
      have HT := hid hta
      clear hgb hta HGb HTb HMK c1
      go_wp2_with fail
      rw [show (2 : Int) = ((2 : Nat) : Int) from rfl]
      refine (number_f True r mb b RES (g1 s x) 2 (by rw [HS4.out.1]; rfl) (by rw [HS4.out.1]; decide) HSZ.out wc HT.out.taf).mono ?_
      rintro e Wa ⟨n, rfl, hn, hoa, hka, hta⟩
      have hni : (n : Int) ≤ 4294967295 := by omega
      have HGa := hid (HG.out.read HT.out.blocks hoa)
      have HTa := hid hta
      clear hn hoa hka hta HG HT
      go_wp2_with fail
      refine (must_f True r mb b RES (g1 s x) n _ Wa (by rw [HS4.out.1]; decide) HSZ.out HTa.out (fun _ => by
        rw [fits4 HS4.out.1]; exact decide_eq_decide.2 (by omega))).mono ?_
      rintro e Wb ⟨rfl, hob, hkb, htb⟩
      have HS5 := hid (g1_4 HS4.out.1 (g1_nu _ _) n)
      have HGb := hid (HGa.out.read HTa.out.tp.blocks hob)
      have HTb : Hid (TAF (n ≤ 1024) r mb b RES (g1 (g1 s x) n) Wb) := hid (htb.imp (fun q => by have := q.2; simp at this; omega))
      have HEM : Hid ((g1 (g1 s x) n).em = x ∧ (g1 (g1 s x) n).gs = [] ∧ (g1 (g1 s x) n).ps = [] ∧ (g1 (g1 s x) n).ng = n ∧ (g1 (g1 s x) n).nx = (if 0 < n then 5 else 9)) := hid (by
        refine ⟨by rw [HS5.out.2.2.2.1, HS4.out.2.2.2], by rw [HS5.out.2.1, HS4.out.2.1, HS.out.2.1], by rw [HS5.out.2.2.1, HS4.out.2.2.1, HS.out.2.2.1], HS5.out.2.2.2.2, ?_⟩
        rw [HS5.out.1, HS4.out.2.1, HS.out.2.1]; rfl)
      obtain ⟨s5, hs5⟩ : ∃ s5, g1 (g1 s x) n = s5 := ⟨_, rfl⟩
      have HNU5 : Hid (s5.nu = 0) := hid (by rw [← hs5]; rfl)
      rw [hs5] at HTb HEM
      clear hob hkb htb HGa HTa HS5 HS4 HS hs5 s
      obtain ⟨i3, hi3, z30, z31, z32⟩ := info_parts info45
      have HI3 := hid (And.intro hi3 (And.intro z30 (And.intro z31 z32)))
      clear hi3 z30 z31 z32
      go_upto_block 2 with fail
      go_cut [11] from 54 to 70 (fun vi wx => ∃ (gs : List Gl) (gv : Value) (st : St), gs.length ≤ 1024 ∧ (∀ g ∈ gs, 0 ≤ g.2.1 ∧ g.2.1 ≤ 4294967296) ∧ st.gs = gs ∧ st.ps = [] ∧ st.em = x ∧ st.nu = 0 ∧ st.nx = 9 ∧ GB w r mb h fo h z5 (x : Int) gv (.slice none 0 0) wx ∧ wx.ownsRow h 33 4 gv gs.length (gs.flatMap cg) ∧ TA r mb b RES st wx)
      case first =>
        go_wp2_with fail
        go_loopw [11] (fun vi wr => ∃ (i : Nat) (gs : List Gl) (gv : Value) (st : St), vi = .int .i64 i ∧ gs.length = i ∧ i ≤ 1024 ∧ (∀ g ∈ gs, 0 ≤ g.2.1 ∧ g.2.1 ≤ 4294967296) ∧ st.gs = gs ∧ st.ps = [] ∧ st.em = x ∧ st.ng = n ∧ st.nu = 0 ∧ st.nx = (if i < n then 5 else 9) ∧ GB w r mb h fo h z5 (x : Int) gv (.slice none 0 0) wr ∧ wr.ownsRow h 33 4 gv i (gs.flatMap cg) ∧ TAF (n ≤ 1024) r mb b RES st wr) (fun vi _ => n - (RowKit.intOf vi).toNat)
        case atStart => exact ⟨0, [], .slice none 0 0, s5, rfl, rfl, Nat.zero_le _, by simp, HEM.out.2.1, HEM.out.2.2.1, HEM.out.1, HEM.out.2.2.2.1, HNU5.out, HEM.out.2.2.2.2, HGb.out, World.ownsRow_nil _ _ _ _, HTb.out⟩
        case round =>
          obtain ⟨i, gs, gv, st, rfl, hgi, hi, hbd, hgs, hps, hem, hng, hnu, hnx, hgb, hrow, hta⟩ := hrel
          obtain ⟨ag, ca, rfl, _, _⟩ := row_reads hrow
          have HGI := hid hgi
          have HIL := hid hi
          have HGBD := hid hbd
          have HSI := hid (And.intro hgs (And.intro hps (And.intro hem (And.intro hng (And.intro hnu hnx)))))
          have HG := hid hgb
          have HROW := hid hrow
          have HTAF := hid hta
          clear hgi hbd hgs hps hem hng hnu hnx hgb hrow hta HGb HTb HEM HNU5
          by_cases hlt : i < n
          · have hlt' : (i : Int) < (n : Int) := by omega
            have HLTN := hid hlt
            rcases HTAF.out with ⟨hF, im, mm, hra⟩ | hbd
            · have HFN := hid (fine_any r mb b im 0 0 mm wr hra.rs)
              have HN1024 := hid hF
              have HTA : Hid (TA r mb b RES st wr) := hid (.inl ⟨im, mm, hra⟩)
              have HST : Hid (st.nx = 5 ∧ st.gs = gs) := hid ⟨by rw [HSI.out.2.2.2.2.2, if_pos HLTN.out], HSI.out.1⟩
              have HGL : Hid (gs.length ≤ 1024) := hid (by rw [HGI.out]; exact HIL.out)
              clear hF hra hlt
              go_wp2_with (go_at_call 38; refine HFN.out.mono ?_; rintro e' w' ⟨rfl, rfl⟩)
              obtain ⟨hi3, z30, z31, z32⟩ := HI3.out
              have HST0 : Hid (RSt h 33 4 (fun Y => GB w r mb h fo h z5 (x : Int) (.slice ag i ca) (.slice none 0 0) Y) (fun rw' Y => GB w r mb h fo h z5 (x : Int) rw' (.slice none 0 0) Y) (.slice ag i ca) i (gs.flatMap cg) (fun Y => TA r mb b RES st Y) (fun nc Y => ∃ x0 x1 x2 x3 : Nat, nc = [.int .i64 (x0 : Int), .int .i64 (x1 : Int), .int .i64 (x2 : Int), .int .i64 (x3 : Int)] ∧ x1 < 4294967296 ∧ TA r mb b RES (g1 (g1 (g1 (g1 st x0) x1) x2) x3) Y) 0 w'.drew undef) := hid ⟨fun _ => HG.out.below (Below.refl _ _).drew, by rw [if_pos rfl]; exact ⟨HROW.out.drew, HTA.out.below (Below.refl _ _).drew⟩⟩
              refine effects2 (ci := fun q => ([4, 5, 6, 8] : List Nat).getD q 0) (val := fun q => ([some (.pointer (some ⟨fo, 1, none⟩)), some (.slice ag i ca), some (.pointer (some ⟨r, 0, none⟩)), some (.agg #[.int .i64 (x : Int), .slice ag i ca, .slice none 0 0]), none, none, none, some (.pointer (some ⟨fo, 1, none⟩)), none] : List (Option Value)).getD q none) (RSt h 33 4 (fun Y => GB w r mb h fo h z5 (x : Int) (.slice ag i ca) (.slice none 0 0) Y) (fun rw' Y => GB w r mb h fo h z5 (x : Int) rw' (.slice none 0 0) Y) (.slice ag i ca) i (gs.flatMap cg) (fun Y => TA r mb b RES st Y) (fun nc Y => ∃ x0 x1 x2 x3 : Nat, nc = [.int .i64 (x0 : Int), .int .i64 (x1 : Int), .int .i64 (x2 : Int), .int .i64 (x3 : Int)] ∧ x1 < 4294967296 ∧ TA r mb b RES (g1 (g1 (g1 (g1 st x0) x1) x2) x3) Y)) undef _ rfl
                (by kernel_rfl) (by kernel_rfl) (by kernel_rfl) (show 0 < 4 by decide) HST0.out (by kernel_rfl) (by kernel_rfl) ?hcall ?hp [63, 64, 65, 66, 67, 68, 69, 70] (by kernel_rfl) ?he
              case hcall =>
                intro j hj
                rcases j with _ | _ | _ | _ | j
                · refine ⟨_, rfl, fun h0 => absurd h0 (by decide), fun a X v hSt hr hh _ _ K hK => ?_⟩
                  obtain ⟨hB, hOwn, hTA⟩ := hSt
                  have hGB := hB (by decide)
                  refine wpOp_one rfl rfl (wp_enter (run_call39 rfl ((hh 2 _ (by kernel_rfl) rfl).only rfl rfl) ((hh 3 _ (by kernel_rfl) rfl).only rfl rfl)) ?_)
                  have hc := one_any r mb b RES st (x : Int) gs ag none ca 0 0 X HST.out.1 HST.out.2 HGL.out HSZ.out hTA (fun X' k => by
                    have := row_read hOwn hTA.blocks (by decide) (by decide) k
                    rw [← HGI.out] at this
                    exact row_sl this)
                  rw [HGI.out] at hc
                  refine hc.mono ?_
                  rintro e X' ⟨x0, x1, x2, x3, rfl, k1, k2, k3, k4⟩
                  exact ⟨_, rfl, hK _ _ ⟨fun _ => hGB.read hTA.blocks k1, _, rfl, row_read hOwn hTA.blocks (by decide) (by decide) k1, x0, x1, x2, x3, rfl, k4, k3⟩⟩
                · refine ⟨_, rfl, fun h => by kernel_rfl, fun a X v hSt hr hh _ hl K hK => ?_⟩
                  obtain ⟨hB, nc, rfl, hOwn, x0, x1, x2, x3, rfl, h1, hTA⟩ := hSt
                  have hGB := hB (by decide)
                  refine wpOp_one rfl rfl (wp_val (run_build22 rfl ((hl 0 rfl).only rfl rfl)) (hK _ _ ⟨fun _ => hGB.below (Below.al (Below.refl _ X) _), _, X.heap.size, rfl, Blk.new X _ 33 rfl, own_below hOwn (Below.al (Below.refl _ X) _), x0, x1, x2, x3, rfl, h1, hTA.below (Below.al (Below.refl _ X) _)⟩))
                · refine ⟨_, rfl, fun h => by kernel_rfl, fun a X v hSt hr hh _ hl K hK => ?_⟩
                  obtain ⟨hB, nc, q, rfl, hq, hOwn, x0, x1, x2, x3, rfl, h1, hTA⟩ := hSt
                  have hGB := hB (by decide)
                  refine wpOp_one rfl rfl (wp_append_sl X (.tmp 64) (.tmp 68) 22 rfl h 33 i3 _ 4 32 Try.underlying22 hi3 z30 z31 z32 rfl (by decide) (.slice ag i ca) i (gs.flatMap cg) ((hh 1 _ (by kernel_rfl) rfl).only rfl rfl) hOwn (some ⟨q, 0, none⟩) 1 1 _ ((hl 1 rfl).only rfl rfl) rfl (sl_one hq) (by intro u hu; simp at hu; rcases hu with rfl | rfl | rfl | rfl <;> rfl) (by have := HIL.out; unfold maxLen; omega) (by have := HIL.out; omega) (by have := hGB.hr.2.1; have := hGB.on.size; have := HH.out; omega) (fun v' w' ho' hg' => hK _ _ ⟨fun _ => hGB.grown hOwn (by decide) (by decide) hg'.grown, _, ho', x0, x1, x2, x3, rfl, h1, hTA.grown hOwn (by decide) (by decide) hg'.grown⟩))
                · refine ⟨_, rfl, fun h => by kernel_rfl, fun a X v hSt hr hh _ hl K hK => ?_⟩
                  obtain ⟨hB, nc, hOwn, x0, x1, x2, x3, rfl, h1, hTA⟩ := hSt
                  have hGB := hB (by decide)
                  obtain ⟨ag', ca', rfl, _, _⟩ := row_reads hOwn
                  refine wpOp_one rfl rfl (wp_skip (run_store22 rfl ((hh 7 _ (by kernel_rfl) rfl).only rfl rfl) ((hl 2 rfl).only rfl rfl) rfl (hGB.fb.cell 1) (hGB.fb.froz 1)) (hK _ _ ⟨fun hc => absurd hc (by decide), _, _, row_set hOwn hGB.fb (by decide), hGB.setg _ HLT.out.2.1, x0, x1, x2, x3, rfl, h1, hTA.set hGB.fb (by decide) (by decide) _⟩))
                · exact absurd (show j + 4 < 4 from hj) (by omega)
              case hp =>
                intro q o ho
                rcases q with _ | _ | _ | _ | _ | _ | _ | _ | _ | q
                · cases ho
                  refine .inr ⟨_, rfl, fun j v' a X hj hSt hr hh hlt => ?_⟩
                  exact does_run rfl rfl (run_fa25_1 rfl (eval_tmp (hr.2.2 7 (by kernel_rfl))))
                · cases ho
                  refine .inr ⟨_, rfl, fun j v' a X hj hSt hr hh hlt => ?_⟩
                  exact does_run rfl rfl (run_load22 rfl ((hh 0 _ (by kernel_rfl) rfl).only rfl rfl) ((hSt.1 (hlt (by kernel_rfl))).fb.cell 1))
                · cases ho
                  refine .inr ⟨_, rfl, fun j v' a X hj hSt hr hh hlt => ?_⟩
                  exact does_run rfl rfl (run_move rfl (eval_tmp (hr.2.2 6 (by kernel_rfl))))
                · cases ho
                  refine .inr ⟨_, rfl, fun j v' a X hj hSt hr hh hlt => ?_⟩
                  exact does_run rfl rfl (run_load25 rfl (eval_tmp (hr.2.2 7 (by kernel_rfl))) (hSt.1 (hlt (by kernel_rfl))).fb)
                · exact .inl ⟨0, by decide, rfl⟩
                · exact .inl ⟨1, by decide, rfl⟩
                · exact .inl ⟨2, by decide, rfl⟩
                · cases ho
                  refine .inr ⟨_, rfl, fun j v' a X hj hSt hr hh hlt => ?_⟩
                  exact does_run rfl rfl (run_fa25_1 rfl (eval_tmp (hr.2.2 7 (by kernel_rfl))))
                · exact .inl ⟨3, by decide, rfl⟩
                · cases ho
              case he =>
                intro us wx v hS
                obtain ⟨_, nc, rw', hOwn, hGB, x0, x1, x2, x3, rfl, h1, hTA⟩ := hS
                have HOw := hid hOwn
                have HGb := hid hGB
                have HTb := hid hTA
                have HX1 := hid h1
                clear hOwn hGB hTA h1
                simp only [List.foldl_cons, List.foldl_nil, List.setIfInBounds_toArray, List.set_cons_succ, List.set_cons_zero]
                generalize us 63 = u63; generalize us 64 = u64; generalize us 65 = u65; generalize us 66 = u66; generalize us 67 = u67; generalize us 68 = u68; generalize us 69 = u69; generalize us 70 = u70
                go_wp2_with fail
                go_roundw
                case rel =>
                  have hG := g1_glyph HST.out.1 HSI.out.2.2.2.2.1 x0 x1 x2 x3
                  refine ⟨i + 1, gs ++ [((x0 : Int), (x1 : Int), (x2 : Int), (x3 : Int))], rw', g1 (g1 (g1 (g1 st x0) x1) x2) x3, by go_num, by rw [List.length_append, HGI.out]; rfl, by have := HN1024.out; have := HLTN.out; omega, ?_, by rw [hG.1, HSI.out.1], by rw [hG.2.1, HSI.out.2.1], by rw [hG.2.2.1, HSI.out.2.2.1], by rw [hG.2.2.2.1, HSI.out.2.2.2.1], rfl, ?_, HGb.out, ?_, HTb.out.tf HN1024.out⟩
                  · intro g hg
                    rcases List.mem_append.1 hg with q | q
                    · exact HGBD.out g q
                    · simp at q; subst q
                      have := HX1.out
                      exact ⟨by show 0 ≤ (x1 : Int); omega, by show (x1 : Int) ≤ 4294967296; omega⟩
                  · rw [hG.2.2.2.2, HSI.out.1, HGI.out, HSI.out.2.2.2.1]
                  · rw [List.flatMap_append]; exact HOw.out
                case measure => have := HLTN.out; simp [RowKit.intOf]; omega
            · have HBD := hid hbd
              obtain ⟨im, a, ee, mm, hrs, _, _, hne, _⟩ := hbd
              have HFN := hid (fine_any r mb b im ee a mm wr hrs)
              have hk : (ee == 0) = false := by simpa using hne
              rw [hk] at HFN
              clear hrs hne hk hlt
              go_wp2_with (go_at_call 38; refine HFN.out.mono ?_; rintro e' w' ⟨rfl, rfl⟩)
              go_meet
              exact ⟨gs, .slice ag i ca, { st with nx := 9 }, by rw [HGI.out]; exact HIL.out, HGBD.out, HSI.out.1, HSI.out.2.1, HSI.out.2.2.1, HSI.out.2.2.2.2.1, rfl, HG.out, by rw [HGI.out]; exact HROW.out, .inr HBD.out⟩
          · have hlt' : ¬ (i : Int) < (n : Int) := by omega
            have HLTN := hid hlt
            clear hlt
            go_wp2_with fail
            go_meet
            refine ⟨gs, .slice ag i ca, st, by rw [HGI.out]; exact HIL.out, HGBD.out, HSI.out.1, HSI.out.2.1, HSI.out.2.2.1, HSI.out.2.2.2.2.1, by rw [HSI.out.2.2.2.2.2, if_neg HLTN.out], HG.out, by rw [HGI.out]; exact HROW.out, HTAF.out.ta⟩
      case rest =>
      obtain ⟨gs, gv, st, hgl, hgbd, hgs, hps, hem, hnu, hnx, hgb, hrow, hta⟩ := hcut
      obtain ⟨ag, ca, rfl, _, _⟩ := row_reads hrow
      obtain ⟨gn, hgn⟩ : ∃ gn, gs.length = gn := ⟨_, rfl⟩
      rw [hgn] at hgb hrow
      have HGN := hid hgn
      have HGL := hid hgl
      have HGBD := hid hgbd
      have HSI := hid (And.intro hgs (And.intro hps (And.intro hem (And.intro hnu hnx))))
      have HG := hid hgb
      have HROW := hid hrow
      have HT := hid hta
      clear hgl hgbd hgs hps hem hnu hnx hgb hrow hta HGb HTb HEM HNU5 hgn
      go_wp2_with fail
      rw [show (2 : Int) = ((2 : Nat) : Int) from rfl]
      refine (number_f True r mb b RES st 2 (by rw [HSI.out.2.2.2.2]; rfl) (by rw [HSI.out.2.2.2.2]; decide) HSZ.out wc HT.out.taf).mono ?_
      rintro e Wa ⟨n2, rfl, hn2, hoa, hka, hta⟩
      have hn2i : (n2 : Int) ≤ 4294967295 := by omega
      have HGa := hid (HG.out.read HT.out.blocks hoa)
      have HRa := hid (row_read HROW.out HT.out.blocks (by decide) (by decide) hoa)
      have HTa := hid hta
      clear hn2 hoa hka hta HG HT HROW
      go_wp2_with fail
      refine (must_f True r mb b RES st n2 _ Wa (by rw [HSI.out.2.2.2.2]; decide) HSZ.out HTa.out (fun _ => by
        rw [fits9 HSI.out.2.2.2.2]; exact decide_eq_decide.2 (by omega))).mono ?_
      rintro e Wb ⟨rfl, hob, hkb, htb⟩
      have HS9 := hid (g1_9 HSI.out.2.2.2.2 HSI.out.2.2.2.1 n2)
      have HGb := hid (HGa.out.read HTa.out.tp.blocks hob)
      have HRb := hid (row_read HRa.out HTa.out.tp.blocks (by decide) (by decide) hob)
      have HTb : Hid (TAF (n2 ≤ 4096) r mb b RES (g1 st n2) Wb) := hid (htb.imp (fun q => by have := q.2; simp at this; omega))
      have HEM : Hid ((g1 st n2).em = x ∧ (g1 st n2).gs = gs ∧ (g1 st n2).ps = [] ∧ (g1 st n2).np = n2 ∧ (g1 st n2).nx = (if 0 < n2 then 10 else 15)) := hid (by
        refine ⟨by rw [HS9.out.2.2.2.1, HSI.out.2.2.1], by rw [HS9.out.2.1, HSI.out.1], by rw [HS9.out.2.2.1, HSI.out.2.1], HS9.out.2.2.2.2, ?_⟩
        rw [HS9.out.1, HSI.out.2.1]; rfl)
      obtain ⟨s10, hs10⟩ : ∃ s10, g1 st n2 = s10 := ⟨_, rfl⟩
      have HNU10 : Hid (s10.nu = 0) := hid (by rw [← hs10]; rfl)
      rw [hs10] at HTb HEM
      clear hob hkb htb HGa HTa HRa HS9 HSI hs10 st
      obtain ⟨i5, hi5, z50, z51, z52⟩ := info_parts info52
      have HI5 := hid (And.intro hi5 (And.intro z50 (And.intro z51 z52)))
      clear hi5 z50 z51 z52
      go_upto_block 4 with fail
      go_cut [12] from 77 to 93 (fun vi wx => ∃ (ps : List Pr) (pv : Value) (st : St), ps.length ≤ 4096 ∧ st.gs = gs ∧ st.ps = ps ∧ st.em = x ∧ st.nu = 0 ∧ st.nx = 15 ∧ GB w r mb h fo h z5 (x : Int) (.slice ag gn ca) pv wx ∧ wx.ownsRow h 33 4 (.slice ag gn ca) gn (gs.flatMap cg) ∧ wx.ownsRow h 35 5 pv ps.length (ps.flatMap cp) ∧ TA r mb b RES st wx)
      case first =>
        go_wp2_with fail
        go_loopw [12] (fun vi wr => ∃ (j : Nat) (ps : List Pr) (pv : Value) (st : St), vi = .int .i64 j ∧ ps.length = j ∧ j ≤ 4096 ∧ st.gs = gs ∧ st.ps = ps ∧ st.em = x ∧ st.np = n2 ∧ st.nu = 0 ∧ st.nx = (if j < n2 then 10 else 15) ∧ GB w r mb h fo h z5 (x : Int) (.slice ag gn ca) pv wr ∧ wr.ownsRow h 33 4 (.slice ag gn ca) gn (gs.flatMap cg) ∧ wr.ownsRow h 35 5 pv j (ps.flatMap cp) ∧ TAF (n2 ≤ 4096) r mb b RES st wr) (fun vi _ => n2 - (RowKit.intOf vi).toNat)
        case atStart => exact ⟨0, [], .slice none 0 0, s10, rfl, rfl, Nat.zero_le _, HEM.out.2.1, HEM.out.2.2.1, HEM.out.1, HEM.out.2.2.2.1, HNU10.out, HEM.out.2.2.2.2, HGb.out, HRb.out, World.ownsRow_nil _ _ _ _, HTb.out⟩
        case round =>
          obtain ⟨j, ps, pv, st, rfl, hpj, hjl, hgs, hps, hem, hnp, hnu, hnx, hgb, hrg, hrow, hta⟩ := hrel
          obtain ⟨ap, cb, rfl, _, _⟩ := row_reads hrow
          have HPJ := hid hpj
          have HJL := hid hjl
          have HSI := hid (And.intro hgs (And.intro hps (And.intro hem (And.intro hnp (And.intro hnu hnx)))))
          have HG := hid hgb
          have HRG := hid hrg
          have HROW := hid hrow
          have HTAF := hid hta
          clear hpj hgs hps hem hnp hnu hnx hgb hrg hrow hta HGb HTb HEM HNU10 HRb
          by_cases hlt : j < n2
          · have hlt' : (j : Int) < (n2 : Int) := by omega
            have HLTN := hid hlt
            rcases HTAF.out with ⟨hF, im, mm, hra⟩ | hbd
            · have HFN := hid (fine_any r mb b im 0 0 mm wr hra.rs)
              have HN4096 := hid hF
              have HTA : Hid (TA r mb b RES st wr) := hid (.inl ⟨im, mm, hra⟩)
              have HST : Hid (st.nx = 10 ∧ st.nu = 0 ∧ st.gs = gs ∧ st.ps = ps) := hid ⟨by rw [HSI.out.2.2.2.2.2, if_pos HLTN.out], HSI.out.2.2.2.2.1, HSI.out.1, HSI.out.2.1⟩
              have HPL : Hid (ps.length ≤ 4096) := hid (by rw [HPJ.out]; exact HJL.out)
              clear hF hra hlt
              go_wp2_with (go_at_call 38; refine HFN.out.mono ?_; rintro e' w' ⟨rfl, rfl⟩)
              obtain ⟨hi5, z50, z51, z52⟩ := HI5.out
              have HST0 : Hid (RSt h 35 5 (fun Y => GB w r mb h fo h z5 (x : Int) (.slice ag gn ca) (.slice ap j cb) Y ∧ Y.ownsRow h 33 4 (.slice ag gn ca) gn (gs.flatMap cg)) (fun rw' Y => GB w r mb h fo h z5 (x : Int) (.slice ag gn ca) rw' Y ∧ Y.ownsRow h 33 4 (.slice ag gn ca) gn (gs.flatMap cg)) (.slice ap j cb) j (ps.flatMap cp) (fun Y => TA r mb b RES st Y) (fun nc Y => ∃ (p : Pr) (s' : St), nc = cp p ∧ TA r mb b RES s' Y ∧ s'.nu = 0 ∧ s'.gs = st.gs ∧ s'.ps = st.ps ++ [p] ∧ s'.em = st.em ∧ s'.np = st.np ∧ s'.nx = (if st.ps.length + 1 < st.np then 10 else 15)) 0 w'.drew undef) := hid ⟨fun _ => ⟨HG.out.below (Below.refl _ _).drew, HRG.out.drew⟩, by rw [if_pos rfl]; exact ⟨HROW.out.drew, HTA.out.below (Below.refl _ _).drew⟩⟩
              refine effects2 (ci := fun q => ([4, 5, 6, 8] : List Nat).getD q 0) (val := fun q => ([some (.pointer (some ⟨fo, 2, none⟩)), some (.slice ap j cb), some (.pointer (some ⟨r, 0, none⟩)), some (.agg #[.int .i64 (x : Int), .slice ag gn ca, .slice ap j cb]), none, none, none, some (.pointer (some ⟨fo, 2, none⟩)), none] : List (Option Value)).getD q none) (RSt h 35 5 (fun Y => GB w r mb h fo h z5 (x : Int) (.slice ag gn ca) (.slice ap j cb) Y ∧ Y.ownsRow h 33 4 (.slice ag gn ca) gn (gs.flatMap cg)) (fun rw' Y => GB w r mb h fo h z5 (x : Int) (.slice ag gn ca) rw' Y ∧ Y.ownsRow h 33 4 (.slice ag gn ca) gn (gs.flatMap cg)) (.slice ap j cb) j (ps.flatMap cp) (fun Y => TA r mb b RES st Y) (fun nc Y => ∃ (p : Pr) (s' : St), nc = cp p ∧ TA r mb b RES s' Y ∧ s'.nu = 0 ∧ s'.gs = st.gs ∧ s'.ps = st.ps ++ [p] ∧ s'.em = st.em ∧ s'.np = st.np ∧ s'.nx = (if st.ps.length + 1 < st.np then 10 else 15))) undef _ rfl
                (by kernel_rfl) (by kernel_rfl) (by kernel_rfl) (show 0 < 4 by decide) HST0.out (by kernel_rfl) (by kernel_rfl) ?hcall ?hp [86, 87, 88, 89, 90, 91, 92, 93] (by kernel_rfl) ?he
              case hcall =>
                intro jj hj
                rcases jj with _ | _ | _ | _ | jj
                · refine ⟨_, rfl, fun h0 => absurd h0 (by decide), fun a X v hSt hr hh _ _ K hK => ?_⟩
                  obtain ⟨hB, hOwn, hTA⟩ := hSt
                  obtain ⟨hGB, hRG⟩ := hB (by decide)
                  refine wpOp_one rfl rfl (wp_enter (run_call40 rfl ((hh 2 _ (by kernel_rfl) rfl).only rfl rfl) ((hh 3 _ (by kernel_rfl) rfl).only rfl rfl)) ?_)
                  have hc := pair_any r mb b RES st (x : Int) gs ps ag ap ca cb X HST.out.1 HST.out.2.1 HST.out.2.2.1 HST.out.2.2.2 HGBD.out HGL.out HPL.out HSZ.out hTA (fun X' k => by
                    have := row_read hRG hTA.blocks (by decide) (by decide) k
                    rw [← HGN.out] at this
                    exact row_sl this) (fun X' k => by
                    have := row_read hOwn hTA.blocks (by decide) (by decide) k
                    rw [← HPJ.out] at this
                    exact row_sl this)
                  rw [HGN.out, HPJ.out] at hc
                  refine hc.mono ?_
                  rintro e X' ⟨p, s', rfl, k1, k2, k3, k4, k5, k6, k7, _, k8, k9⟩
                  exact ⟨_, rfl, hK _ _ ⟨fun _ => ⟨hGB.read hTA.blocks k1, row_read hRG hTA.blocks (by decide) (by decide) k1⟩, _, rfl, row_read hOwn hTA.blocks (by decide) (by decide) k1, p, s', rfl, k3, k4, k5, k6, k7, k8, k9⟩⟩
                · refine ⟨_, rfl, fun h => by kernel_rfl, fun a X v hSt hr hh _ hl K hK => ?_⟩
                  obtain ⟨hB, nc, rfl, hOwn, ⟨p0, p1, p2, p3, p4⟩, s', rfl, hTA, hs'⟩ := hSt
                  obtain ⟨hGB, hRG⟩ := hB (by decide)
                  refine wpOp_one rfl rfl (wp_val (run_build23 rfl ((hl 0 rfl).only rfl rfl)) (hK _ _ ⟨fun _ => ⟨hGB.below (Below.al (Below.refl _ X) _), own_below hRG (Below.al (Below.refl _ X) _)⟩, _, X.heap.size, rfl, Blk.new X _ 35 rfl, own_below hOwn (Below.al (Below.refl _ X) _), (p0, p1, p2, p3, p4), s', rfl, hTA.below (Below.al (Below.refl _ X) _), hs'⟩))
                · refine ⟨_, rfl, fun h => by kernel_rfl, fun a X v hSt hr hh _ hl K hK => ?_⟩
                  obtain ⟨hB, nc, q, rfl, hq, hOwn, ⟨p0, p1, p2, p3, p4⟩, s', rfl, hTA, hs'⟩ := hSt
                  obtain ⟨hGB, hRG⟩ := hB (by decide)
                  refine wpOp_one rfl rfl (wp_append_sl X (.tmp 87) (.tmp 91) 23 rfl h 35 i5 _ 5 40 Try.underlying23 hi5 z50 z51 z52 rfl (by decide) (.slice ap j cb) j (ps.flatMap cp) ((hh 1 _ (by kernel_rfl) rfl).only rfl rfl) hOwn (some ⟨q, 0, none⟩) 1 1 _ ((hl 1 rfl).only rfl rfl) rfl (sl_one hq) (by intro u hu; simp [cp] at hu; rcases hu with rfl | rfl | rfl | rfl | rfl <;> rfl) (by have := HJL.out; unfold maxLen; omega) (by have := HJL.out; omega) (by have := hGB.hr.2.1; have := hGB.on.size; have := HH.out; omega) (fun v' w' ho' hg' => hK _ _ ⟨fun _ => ⟨hGB.grown hOwn (by decide) (by decide) hg'.grown, hRG.kept hg'.grown (rows_ne hOwn hRG (by decide))⟩, _, ho', (p0, p1, p2, p3, p4), s', rfl, hTA.grown hOwn (by decide) (by decide) hg'.grown, hs'⟩))
                · refine ⟨_, rfl, fun h => by kernel_rfl, fun a X v hSt hr hh _ hl K hK => ?_⟩
                  obtain ⟨hB, nc, hOwn, p, s', rfl, hTA, hs'⟩ := hSt
                  obtain ⟨hGB, hRG⟩ := hB (by decide)
                  obtain ⟨ap', cb', rfl, _, _⟩ := row_reads hOwn
                  refine wpOp_one rfl rfl (wp_skip (run_store23 rfl ((hh 7 _ (by kernel_rfl) rfl).only rfl rfl) ((hl 2 rfl).only rfl rfl) rfl (hGB.fb.cell 2) (hGB.fb.froz 2)) (hK _ _ ⟨fun hc => absurd hc (by decide), _, _, row_set hOwn hGB.fb (by decide), ⟨hGB.setp _ HLT.out.2.1, row_set hRG hGB.fb (by decide)⟩, p, s', rfl, hTA.set hGB.fb (by decide) (by decide) _, hs'⟩))
                · exact absurd (show jj + 4 < 4 from hj) (by omega)
              case hp =>
                intro q o ho
                rcases q with _ | _ | _ | _ | _ | _ | _ | _ | _ | q
                · cases ho
                  refine .inr ⟨_, rfl, fun j' v' a X hj hSt hr hh hlt => ?_⟩
                  exact does_run rfl rfl (run_fa25_2 rfl (eval_tmp (hr.2.2 7 (by kernel_rfl))))
                · cases ho
                  refine .inr ⟨_, rfl, fun j' v' a X hj hSt hr hh hlt => ?_⟩
                  exact does_run rfl rfl (run_load23 rfl ((hh 0 _ (by kernel_rfl) rfl).only rfl rfl) ((hSt.1 (hlt (by kernel_rfl))).1.fb.cell 2))
                · cases ho
                  refine .inr ⟨_, rfl, fun j' v' a X hj hSt hr hh hlt => ?_⟩
                  exact does_run rfl rfl (run_move rfl (eval_tmp (hr.2.2 6 (by kernel_rfl))))
                · cases ho
                  refine .inr ⟨_, rfl, fun j' v' a X hj hSt hr hh hlt => ?_⟩
                  exact does_run rfl rfl (run_load25 rfl (eval_tmp (hr.2.2 7 (by kernel_rfl))) (hSt.1 (hlt (by kernel_rfl))).1.fb)
                · exact .inl ⟨0, by decide, rfl⟩
                · exact .inl ⟨1, by decide, rfl⟩
                · exact .inl ⟨2, by decide, rfl⟩
                · cases ho
                  refine .inr ⟨_, rfl, fun j' v' a X hj hSt hr hh hlt => ?_⟩
                  exact does_run rfl rfl (run_fa25_2 rfl (eval_tmp (hr.2.2 7 (by kernel_rfl))))
                · exact .inl ⟨3, by decide, rfl⟩
                · cases ho
              case he =>
                intro us wx v hS
                obtain ⟨_, nc, rw', hOwn, ⟨hGB, hRG⟩, p, s', rfl, hTA, hs'⟩ := hS
                have HOw := hid hOwn
                have HGb := hid hGB
                have HRGb := hid hRG
                have HTb := hid hTA
                have HSN := hid hs'
                clear hOwn hGB hTA hs' hRG
                simp only [List.foldl_cons, List.foldl_nil, List.setIfInBounds_toArray, List.set_cons_succ, List.set_cons_zero]
                generalize us 86 = u86; generalize us 87 = u87; generalize us 88 = u88; generalize us 89 = u89; generalize us 90 = u90; generalize us 91 = u91; generalize us 92 = u92; generalize us 93 = u93
                go_wp2_with fail
                go_roundw
                case rel =>
                  refine ⟨j + 1, ps ++ [p], rw', s', by go_num, by rw [List.length_append, HPJ.out]; rfl, by have := HN4096.out; have := HLTN.out; omega, by rw [HSN.out.2.1, HSI.out.1], by rw [HSN.out.2.2.1, HSI.out.2.1], by rw [HSN.out.2.2.2.1, HSI.out.2.2.1], by rw [HSN.out.2.2.2.2.1, HSI.out.2.2.2.1], HSN.out.1, ?_, HGb.out, HRGb.out, ?_, HTb.out.tf HN4096.out⟩
                  · rw [HSN.out.2.2.2.2.2, HSI.out.2.1, HPJ.out, HSI.out.2.2.2.1]
                  · rw [List.flatMap_append]
                    have := HOw.out
                    simpa using this
                case measure => have := HLTN.out; simp [RowKit.intOf]; omega
            · have HBD := hid hbd
              obtain ⟨im, a, ee, mm, hrs, _, _, hne, _⟩ := hbd
              have HFN := hid (fine_any r mb b im ee a mm wr hrs)
              have hk : (ee == 0) = false := by simpa using hne
              rw [hk] at HFN
              clear hrs hne hk hlt
              go_wp2_with (go_at_call 38; refine HFN.out.mono ?_; rintro e' w' ⟨rfl, rfl⟩)
              go_meet
              exact ⟨ps, .slice ap j cb, { st with nx := 15 }, by rw [HPJ.out]; exact HJL.out, HSI.out.1, HSI.out.2.1, HSI.out.2.2.1, HSI.out.2.2.2.2.1, rfl, HG.out, HRG.out, by rw [HPJ.out]; exact HROW.out, .inr HBD.out⟩
          · have hlt' : ¬ (j : Int) < (n2 : Int) := by omega
            have HLTN := hid hlt
            clear hlt
            go_wp2_with fail
            go_meet
            refine ⟨ps, .slice ap j cb, st, by rw [HPJ.out]; exact HJL.out, HSI.out.1, HSI.out.2.1, HSI.out.2.2.1, HSI.out.2.2.2.2.1, by rw [HSI.out.2.2.2.2.2, if_neg HLTN.out], HG.out, HRG.out, by rw [HPJ.out]; exact HROW.out, HTAF.out.ta⟩
      case rest =>
      obtain ⟨ps, pv, st, hpl, hgs, hps, hem, hnu, hnx, hgb, hrg, hrow, hta⟩ := hcut
      obtain ⟨ap, cb, rfl, _, _⟩ := row_reads hrow
      obtain ⟨pn, hpn⟩ : ∃ pn, ps.length = pn := ⟨_, rfl⟩
      rw [hpn] at hgb hrow
      have HPN := hid hpn
      have HPL := hid hpl
      have HSI := hid (And.intro hgs (And.intro hps (And.intro hem (And.intro hnu hnx))))
      have HG := hid hgb
      have HRG := hid hrg
      have HRP := hid hrow
      have HT := hid hta
      have hF0 : ∃ ia : Nat, ia ≤ b.size ∧ wc.cell? ⟨r, 2, none⟩ = some (.int .i64 ia) ∧ TAF (st.sm = sumB ((bl b).take ia)) r mb b RES st wc := by
        rcases hta with ⟨i, mm, hra⟩ | hbd
        · exact ⟨i, hra.le, hra.rs.blk.cell 2, .inl ⟨hra.sm (by rw [hnx]; decide), i, mm, hra⟩⟩
        · have hb2 := hbd
          obtain ⟨i, a, ee, mm, hrs, _, hle, _, _⟩ := hbd
          exact ⟨i, hle, hrs.blk.cell 2, .inr hb2⟩
      obtain ⟨ia, hia, c2, htf⟩ := hF0
      have HTF := hid htf
      have HIA := hid hia
      have i0 : (0 : Int) ≤ (ia : Int) := by omega
      have i1 : (ia : Int) ≤ (b.size : Int) := by omega
      have hbl : bl (b.extract 0 ia) = (bl b).take ia := bl_cut b ia
      have hsz2 : (b.extract 0 ia).size = ia := by rw [ByteArray.size_extract]; omega
      have hcv := run_bytes_of_string (P := Try.prog) wc 9 56 5 (b.extract 0 ia) Try.underlying9 Try.underlying56 Try.underlying5
      have HSLB := hid (sl_bytes wc (b.extract 0 ia) (grownCap wc (b.extract 0 ia).size 0 5) 5 ((bytesRow (b.extract 0 ia) (grownCap wc (b.extract 0 ia).size 0 5)).size, (bytesRow (b.extract 0 ia) (grownCap wc (b.extract 0 ia).size 0 5)).size + 1))
      obtain ⟨CR, hCR⟩ : ∃ CR, bytesRow (b.extract 0 ia) (grownCap wc (b.extract 0 ia).size 0 5) = CR := ⟨_, rfl⟩
      rw [hCR] at hcv HSLB
      obtain ⟨MK, hMK⟩ : ∃ MK, (CR.size, CR.size + 1) = MK := ⟨_, rfl⟩
      rw [hMK] at hcv HSLB
      rw [hbl] at HSLB
      rw [hsz2] at hcv HSLB
      obtain ⟨cap, hcap⟩ : ∃ cap, grownCap wc ia 0 5 = cap := ⟨_, rfl⟩
      rw [hcap] at hcv
      have hbw : Below wc.heap.size wc (wc.drew.alloc (.cells CR 5 MK)) := (Below.refl _ wc).drew.alloc (Nat.le_refl _) _
      have HGw := hid (HG.out.below hbw)
      have HRGw := hid (own_below HRG.out hbw)
      have HRPw := hid (own_below HRP.out hbw)
      have HTFw := hid (HTF.out.below hbw)
      have HSUM := hid (sum_any ((bl b).take ia) (some ⟨wc.heap.size, 0, none⟩) cap (wc.drew.alloc (.cells CR 5 MK)) (by rw [List.length_take, bl_length]; have := HSZ.out; omega) (fun q hq => bl_lt b q (List.mem_of_mem_take hq)) (by rw [List.length_take, bl_length, Nat.min_eq_left HIA.out]; exact HSLB.out))
      rw [List.length_take, bl_length, Nat.min_eq_left HIA.out] at HSUM
      clear hpn hpl hgs hps hem hnu hnx hgb hrg hrow hta htf hia hbl hsz2 hCR hMK hcap hbw HG HRG HRP HT HTF HSLB HGb HRb HTb HEM HNU10
      go_wp2_with fail
      refine HSUM.out.mono ?_
      rintro e Wd ⟨rfl, rfl⟩
      obtain ⟨Wd, hWd⟩ : ∃ Wd, wc.drew.alloc (.cells CR 5 MK) = Wd := ⟨_, rfl⟩
      obtain ⟨WT, hWT⟩ : ∃ WT, sumB ((bl b).take ia) = WT := ⟨_, rfl⟩
      rw [hWd] at HGw HRGw HRPw HTFw ⊢
      rw [hWT] at HTFw ⊢
      clear hWd hWT hcv HSUM c2 i0 i1 HIA
      go_wp2_with fail
      rw [show (4 : Int) = ((4 : Nat) : Int) from rfl]
      refine (number_f _ r mb b RES st 4 (by rw [HSI.out.2.2.2.2]; rfl) (by rw [HSI.out.2.2.2.2]; decide) HSZ.out Wd HTFw.out).mono ?_
      rintro e Wn ⟨got, rfl, hgot, hon, hkn, htn⟩
      have hgoti : (got : Int) ≤ 4294967295 := by omega
      have HGn := hid (HGw.out.read HTFw.out.ta.blocks hon)
      have HRGn := hid (row_read HRGw.out HTFw.out.ta.blocks (by decide) (by decide) hon)
      have HRPn := hid (row_read HRPw.out HTFw.out.ta.blocks (by decide) (by decide) hon)
      have HTn := hid htn
      clear hgot hon hkn htn HGw HRGw HRPw HTFw
      go_upto_region 25 with fail
      go_cut [111] from 105 to 111 (fun v wx => ∃ c : Bool, v = .bool c ∧ wx = Wn ∧ ((c = true ∧ got ≠ WT ∧ st.sm = WT ∧ ∃ i m, Pd r mb b RES st got Wn i m) ∨ (c = false ∧ ((got = WT ∧ st.sm = WT ∧ ∃ i m, Pd r mb b RES st got Wn i m) ∨ Bd r mb b RES Wn))))
      case first =>
        rcases HTn.out with ⟨hF, i, mm, hpd⟩ | ⟨hbd, hz0⟩
        · have HFN := hid (fine_any r mb b i 0 0 mm Wn hpd.rs)
          have HPD := hid hpd
          have HFF := hid hF
          clear hpd hF
          by_cases hgw : got = WT
          · have hne : ((got : Int) != (WT : Int)) = false := by rw [hgw]; simp
            have HGW := hid hgw
            clear hgw
            go_wp2_with (go_at_call 38; refine HFN.out.mono ?_; rintro e' w' ⟨rfl, rfl⟩)
            go_meet
            exact ⟨false, rfl, rfl, .inr ⟨rfl, .inl ⟨HGW.out, HFF.out, i, mm, HPD.out⟩⟩⟩
          · have hne : ((got : Int) != (WT : Int)) = true := by simp; omega
            have HGW := hid hgw
            clear hgw
            go_wp2_with (go_at_call 38; refine HFN.out.mono ?_; rintro e' w' ⟨rfl, rfl⟩)
            go_meet
            exact ⟨true, rfl, rfl, .inl ⟨rfl, HGW.out, HFF.out, i, mm, HPD.out⟩⟩
        · have HBD := hid hbd
          clear hz0
          obtain ⟨i, a, ee, mm, hrs, _, _, hne, _⟩ := hbd
          have HFN := hid (fine_any r mb b i ee a mm Wn hrs)
          have hk : (ee == 0) = false := by simpa using hne
          rw [hk] at HFN
          clear hrs hne hk
          go_wp2_with (go_at_call 38; refine HFN.out.mono ?_; rintro e' w' ⟨rfl, rfl⟩)
          go_meet
          exact ⟨false, rfl, rfl, .inr ⟨rfl, .inr HBD.out⟩⟩
      case rest =>
      obtain ⟨c1, rfl, rfl, hc1⟩ := hcut
      have HC1 := hid hc1
      have HS16 := hid (g1_15 HSI.out.2.2.2.2 got)
      clear hc1 HTn
      go_upto_if 111 with fail
      go_cut [] from 112 to 118 (fun wx => GB w r mb h fo h z5 (x : Int) (.slice ag gn ca) (.slice ap pn cb) wx ∧ wx.ownsRow h 33 4 (.slice ag gn ca) gn (gs.flatMap cg) ∧ wx.ownsRow h 35 5 (.slice ap pn cb) pn (ps.flatMap cp) ∧ TA r mb b RES (g1 st got) wx)
      case first =>
        rcases HC1.out with ⟨rfl, hne, hsm, i, mm, hpd⟩ | ⟨rfl, hq⟩
        · have HPD := hid hpd
          have HNE := hid (And.intro hne hsm)
          have c2 : wc.cell? ⟨r, 2, none⟩ = some (.int .i64 i) := hpd.rs.blk.cell 2
          have HWR := hid (wrong_any 61 ((i : Int) - 1) r mb b i 0 0 mm wc hpd.rs)
          have p1 : (1 : Int) ≤ (i : Int) := by have := hpd.pos; omega
          have p2 : (i : Int) ≤ 9223372036854775807 := by have := hpd.le; have := HSZ.out; omega
          have hbk := (show TP r mb b RES st got wc from .inl ⟨i, mm, hpd⟩).blocks
          have HBLK := hid hbk
          clear hpd hne hsm hbk
          go_wp2_with fail
          refine HWR.out.mono ?_
          rintro e' Wm ⟨rfl, h1, h2⟩
          have HR := hid h1
          have HO2 : Hid (Only [r, mb] wc Wm) := hid (h2.mono (by intro q _ hq; simp at hq ⊢; exact .inl hq))
          clear h1 h2
          go_wp2_with fail
          go_meet
          refine ⟨HGn.out.read HBLK.out HO2.out, row_read HRGn.out HBLK.out (by decide) (by decide) HO2.out, row_read HRPn.out HBLK.out (by decide) (by decide) HO2.out, .inr ⟨i, i - 1, 61, mm, ?_, HPD.out.ok, HPD.out.le, by decide, ?_⟩⟩
          · have := HR.out
            simp only [if_true] at this
            rw [show ((i - 1 : Nat) : Int) = (i : Int) - 1 by have := HPD.out.pos; omega]
            exact this
          · have := HPD.out.res
            rw [fits15 HSI.out.2.2.2.2, decide_eq_false (by rw [HNE.out.2]; exact HNE.out.1), if_neg (by decide)] at this
            rw [this]
            unfold bad
            rw [if_pos HSI.out.2.2.2.2]
        · have HQ := hid hq
          clear hq
          go_wp2_with fail
          go_meet
          refine ⟨HGn.out, HRGn.out, HRPn.out, ?_⟩
          rcases HQ.out with ⟨hg, hsm, i, mm, hpd⟩ | hbd
          · refine .inl ⟨i, mm, hpd.rs, hpd.ok, hpd.le, ?_, fun h15 => by rw [HS16.out.1] at h15; omega, rfl, rfl⟩
            have := hpd.res
            rw [fits15 HSI.out.2.2.2.2, decide_eq_true (by rw [hsm]; exact hg), if_pos rfl] at this
            exact this.symm
          · exact .inr hbd
      case rest =>
      obtain ⟨hgb, hrg, hrp, hta⟩ := hcut
      obtain ⟨s16, hs16⟩ : ∃ s16, g1 st got = s16 := ⟨_, rfl⟩
      rw [hs16] at hta HS16
      have HG := hid hgb
      have HRG := hid hrg
      have HRP := hid hrp
      have HT := hid hta
      have HEM : Hid (s16.nx = 16 ∧ s16.gs = gs ∧ s16.ps = ps ∧ s16.em = x) := hid ⟨HS16.out.1, by rw [HS16.out.2.1, HSI.out.1], by rw [HS16.out.2.2.1, HSI.out.2.1], by rw [HS16.out.2.2.2, HSI.out.2.2.1]⟩
      clear hgb hrg hrp hta hs16 HS16 HSI HC1 HGn HRGn HRPn
      go_upto_region 27 with fail
      go_cut [129] from 119 to 129 (fun v wx => ∃ c : Bool, v = .bool c ∧ wx = wc ∧ ((c = true ∧ ∃ i m, Ra r mb b RES s16 wc i m ∧ i < b.size) ∨ (c = false ∧ ((∃ m, Ra r mb b RES s16 wc b.size m) ∨ Bd r mb b RES wc))))
      case first =>
        rcases HT.out with ⟨i, mm, hra⟩ | hbd
        · have HFN := hid (fine_any r mb b i 0 0 mm wc hra.rs)
          have HRA := hid hra
          have c2 : wc.cell? ⟨r, 2, none⟩ = some (.int .i64 i) := hra.rs.blk.cell 2
          clear hra
          by_cases hlt : i < b.size
          · have hlt' : (i : Int) < (b.size : Int) := by omega
            have HLTN := hid hlt
            clear hlt
            go_wp2_with (go_at_call 38; refine HFN.out.mono ?_; rintro e' w' ⟨rfl, rfl⟩)
            go_meet
            exact ⟨true, rfl, rfl, .inl ⟨rfl, i, mm, HRA.out, HLTN.out⟩⟩
          · have hlt' : ¬ (i : Int) < (b.size : Int) := by omega
            have HLTN := hid hlt
            clear hlt
            go_wp2_with (go_at_call 38; refine HFN.out.mono ?_; rintro e' w' ⟨rfl, rfl⟩)
            go_meet
            refine ⟨false, by rw [decide_eq_false HLTN.out], rfl, .inr ⟨rfl, .inl ⟨mm, ?_⟩⟩⟩
            have e : i = b.size := by have := HRA.out.le; have := HLTN.out; omega
            rw [← e]
            exact HRA.out
        · have HBD := hid hbd
          obtain ⟨i, a, ee, mm, hrs, _, _, hne, _⟩ := hbd
          have HFN := hid (fine_any r mb b i ee a mm wc hrs)
          have hk : (ee == 0) = false := by simpa using hne
          rw [hk] at HFN
          clear hrs hne hk
          go_wp2_with (go_at_call 38; refine HFN.out.mono ?_; rintro e' w' ⟨rfl, rfl⟩)
          go_meet
          exact ⟨false, rfl, rfl, .inr ⟨rfl, .inr HBD.out⟩⟩
      case rest =>
      obtain ⟨c2, rfl, rfl, hc2⟩ := hcut
      have HC2 := hid hc2
      clear hc2
      go_upto_if 129 with fail
      go_cut [] from 130 to 133 (fun wx => GB w r mb h fo h z5 (x : Int) (.slice ag gn ca) (.slice ap pn cb) wx ∧ wx.ownsRow h 33 4 (.slice ag gn ca) gn (gs.flatMap cg) ∧ wx.ownsRow h 35 5 (.slice ap pn cb) pn (ps.flatMap cp) ∧ ((∃ m, Ra r mb b RES s16 wx b.size m) ∨ Bd r mb b RES wx))
      case first =>
        rcases HC2.out with ⟨rfl, i, mm, hra, hlt⟩ | ⟨rfl, hq⟩
        · have HBLK := hid HT.out.blocks
          have HNA := hid (number_any r mb b RES s16 1 (by rw [HEM.out.1]; rfl) (by decide) (by decide) HSZ.out wc (.inl ⟨i, mm, hra, fun _ => hlt⟩))
          clear hra hlt
          go_wp2_with fail
          rw [show (1 : Int) = ((1 : Nat) : Int) from rfl]
          refine HNA.out.mono ?_
          rintro e' Wn ⟨n, rfl, hn, hon, hpd⟩
          have hni : (n : Int) ≤ 4294967295 := by omega
          have HGn := hid (HG.out.read HBLK.out hon)
          have HRGn := hid (row_read HRG.out HBLK.out (by decide) (by decide) hon)
          have HRPn := hid (row_read HRP.out HBLK.out (by decide) (by decide) hon)
          have htp : TP r mb b RES s16 n Wn := hpd
          have HBLN := hid htp.blocks
          have HMF := hid (must_f True r mb b RES s16 n false Wn (by rw [HEM.out.1]; decide) HSZ.out (htp.elim (fun q => .inl ⟨trivial, q⟩) .inr) (fun _ => (fits16 HEM.out.1 n).symm))
          clear hn hon hpd htp HNA
          go_wp2_with fail
          refine HMF.out.mono ?_
          rintro e' Wm ⟨rfl, hom, hkm, htm⟩
          have HGm := hid (HGn.out.read HBLN.out hom)
          have HRGm := hid (row_read HRGn.out HBLN.out (by decide) (by decide) hom)
          have HRPm := hid (row_read HRPn.out HBLN.out (by decide) (by decide) hom)
          have HTM := hid htm
          clear hom hkm htm
          go_wp2_with fail
          go_meet
          exact ⟨HGm.out, HRGm.out, HRPm.out, .inr (HTM.out.elim (fun q => absurd q.1.2 (by decide)) id)⟩
        · have HQ := hid hq
          clear hq
          go_wp2_with fail
          go_meet
          exact ⟨HG.out, HRG.out, HRP.out, HQ.out⟩
      case rest =>
      obtain ⟨hgb, hrg, hrp, hta⟩ := hcut
      have HSS := hid hta
      have HGc := hid hgb
      have HRGc := hid hrg
      have HRPc := hid hrp
      clear hgb hrg hrp hta HC2 HG HRG HRP HT
      have HS0 : Hid ((∃ m : M, RS wc r mb b b.size 0 0 m ∧ m.Ok ∧ holdN (gn + pn) m s16 = RES) ∨ Bd r mb b RES wc) := hid (by
        rcases HSS.out with ⟨m, hra⟩ | hbd
        · refine .inl ⟨m, hra.rs, hra.ok, ?_⟩
          have := hra.at_
          rw [List.drop_of_length_le (by rw [bl_length]; exact Nat.le_refl _), getM, if_pos HEM.out.1, HEM.out.2.1, HEM.out.2.2.1, HGN.out, HPN.out] at this
          exact this
        · exact .inr hbd)
      have HGN2 : Hid (gn ≤ 1024) := hid (by have := HGL.out; have := HGN.out; omega)
      have HPN2 : Hid (pn ≤ 4096) := hid (by have := HPL.out; have := HPN.out; omega)
      clear HSS
      go_upto_block 6 with fail
      go_cut [16] from 134 to 155 (fun vi wx => GB w r mb h fo h z5 (x : Int) (.slice ag gn ca) (.slice ap pn cb) wx ∧ wx.ownsRow h 33 4 (.slice ag gn ca) gn (gs.flatMap cg) ∧ wx.ownsRow h 35 5 (.slice ap pn cb) pn (ps.flatMap cp) ∧ ((∃ m : M, RS wx r mb b b.size 0 0 m ∧ RES = (m, .inr s16)) ∨ Bd r mb b RES wx))
      case first =>
        go_wp2_with fail
        go_loopw [16] (fun vi wr => ∃ (k : Nat), vi = .int .i64 k ∧ k ≤ gn + pn ∧ GB w r mb h fo h z5 (x : Int) (.slice ag gn ca) (.slice ap pn cb) wr ∧ wr.ownsRow h 33 4 (.slice ag gn ca) gn (gs.flatMap cg) ∧ wr.ownsRow h 35 5 (.slice ap pn cb) pn (ps.flatMap cp) ∧ ((∃ m : M, RS wr r mb b b.size 0 0 m ∧ m.Ok ∧ holdN (gn + pn - k) m s16 = RES) ∨ Bd r mb b RES wr)) (fun vi _ => gn + pn - (RowKit.intOf vi).toNat)
        case atStart => exact ⟨0, rfl, Nat.zero_le _, HGc.out, HRGc.out, HRPc.out, HS0.out⟩
        case round =>
          obtain ⟨k, rfl, hk, hgb, hrg, hrp, hst⟩ := hrel
          have HG := hid hgb
          have HRG := hid hrg
          have HRP := hid hrp
          have g1 : wr.cell? ⟨fo, 1, none⟩ = some (.slice ag gn ca) := hgb.fb.cell 1
          have g2 : wr.cell? ⟨fo, 2, none⟩ = some (.slice ap pn cb) := hgb.fb.cell 2
          have hgn' : (gn : Int) ≤ 1024 := by have := HGN2.out; omega
          have hpn' : (pn : Int) ≤ 4096 := by have := HPN2.out; omega
          have hg0 : (0 : Int) ≤ (gn : Int) := by omega
          have hp0 : (0 : Int) ≤ (pn : Int) := by omega
          clear hgb hrg hrp HGc HRGc HRPc HS0
          by_cases hlt : k < gn + pn
          · have hlt' : (k : Int) < (gn : Int) + (pn : Int) := by omega
            have HLTN := hid hlt
            clear hlt
            rcases hst with ⟨m2, hrs, hmo, heq⟩ | hbd
            · have HRS := hid hrs
              have HMO := hid hmo
              have HEQ : Hid ((if m2.holdOk 1 = true then holdN (gn + pn - (k + 1)) (m2.hold 1) s16 else (m2.hold 1, .inl ((m2.hold 1).why, 0))) = RES) := hid (by
                rw [← heq]
                obtain ⟨q, hq⟩ : ∃ q, gn + pn - k = q + 1 := ⟨gn + pn - k - 1, by have := HLTN.out; omega⟩
                rw [hq, show gn + pn - (k + 1) = q by omega]
                rfl)
              have HFN := hid (fine_any r mb b b.size 0 0 m2 wr hrs)
              have HHD := hid (holdR_any m2 hmo mb 1 wr hrs.mt)
              clear hrs hmo heq
              go_wp2_with (go_at_call 38; refine HFN.out.mono ?_; rintro e' w' ⟨rfl, rfl⟩)
              refine HHD.out.mono ?_
              rintro e' W3 ⟨rfl, h1, h2⟩
              have HM3 : Hid (RS W3 r mb b b.size 0 0 (m2.hold 1)) := hid ⟨h2.blk HRS.out.blk (by rw [List.mem_singleton]; exact HRS.out.ne), h1⟩
              have HO3 : Hid (Only [r, mb] w' W3) := hid (h2.mono (by intro q _ hq; simp at hq ⊢; exact .inr hq))
              have HBL : Hid ((∃ xs, Blk w' r xs 87) ∧ ∃ ys, Blk w' mb ys 74) := hid ⟨⟨_, HRS.out.blk⟩, ⟨_, HRS.out.mt⟩⟩
              have HG3 := hid (HG.out.read HBL.out HO3.out)
              have HRG3 := hid (row_read HRG.out HBL.out (by decide) (by decide) HO3.out)
              have HRP3 := hid (row_read HRP.out HBL.out (by decide) (by decide) HO3.out)
              have HMO3 := hid (M.hold_ok HMO.out 1)
              clear h1 h2
              cases hho : m2.holdOk 1 with
              | false =>
                have HWY := hid (hold_why hho)
                have HE2 : Hid ((m2.hold 1, Sum.inl ((m2.hold 1).why, 0)) = RES) := hid (by have := HEQ.out; rw [if_neg (by rw [hho]; decide)] at this; exact this)
                have HRF := hid (refusedR_any (m2.hold 1) mb W3 HM3.out.mt)
                have HWR := hid (wrong_any (m2.hold 1).why 0 r mb b b.size 0 0 (m2.hold 1) W3 HM3.out)
                clear hho
                go_wp2_with fail
                refine HRF.out.mono ?_
                rintro e' W4 ⟨rfl, rfl⟩
                go_wp2_with fail
                refine HWR.out.mono ?_
                rintro e' W5 ⟨rfl, h1, h2⟩
                have HBL4 : Hid ((∃ xs, Blk W4 r xs 87) ∧ ∃ ys, Blk W4 mb ys 74) := hid ⟨⟨_, HM3.out.blk⟩, ⟨_, HM3.out.mt⟩⟩
                have HO5 : Hid (Only [r, mb] W4 W5) := hid (h2.mono (by intro q _ hq; simp at hq ⊢; exact .inl hq))
                have HG5 := hid (HG3.out.read HBL4.out HO5.out)
                have HRG5 := hid (row_read HRG3.out HBL4.out (by decide) (by decide) HO5.out)
                have HRP5 := hid (row_read HRP3.out HBL4.out (by decide) (by decide) HO5.out)
                have HRS5 := hid h1
                clear h1 h2
                go_wp2_with fail
                go_roundw
                case rel =>
                  refine ⟨k + 1, by go_num, by have := HLTN.out; omega, HG5.out, HRG5.out, HRP5.out, .inr ⟨b.size, 0, (m2.hold 1).why, m2.hold 1, ?_, HMO3.out, Nat.le_refl _, HWY.out, HE2.out.symm⟩⟩
                  have := HRS5.out
                  simp only [if_true] at this
                  exact this
                case measure => have := HLTN.out; simp [RowKit.intOf]; omega
              | true =>
                have HE2 : Hid (holdN (gn + pn - (k + 1)) (m2.hold 1) s16 = RES) := hid (by have := HEQ.out; rw [if_pos hho] at this; exact this)
                clear hho
                go_wp2_with fail
                go_roundw
                case rel => exact ⟨k + 1, by go_num, by have := HLTN.out; omega, HG3.out, HRG3.out, HRP3.out, .inl ⟨m2.hold 1, HM3.out, HMO3.out, HE2.out⟩⟩
                case measure => have := HLTN.out; simp [RowKit.intOf]; omega
            · have HBD := hid hbd
              obtain ⟨i, a, ee, mm, hrs, _, _, hne, _⟩ := hbd
              have HFN := hid (fine_any r mb b i ee a mm wr hrs)
              have hk2 : (ee == 0) = false := by simpa using hne
              rw [hk2] at HFN
              clear hrs hne hk2
              go_wp2_with (go_at_call 38; refine HFN.out.mono ?_; rintro e' w' ⟨rfl, rfl⟩)
              go_meet
              exact ⟨HG.out, HRG.out, HRP.out, .inr HBD.out⟩
          · have hlt' : ¬ (k : Int) < (gn : Int) + (pn : Int) := by omega
            have hke : gn + pn - k = 0 := by omega
            have HST := hid hst
            have HKE := hid hke
            clear hlt hst hke
            go_wp2_with fail
            go_meet
            refine ⟨HG.out, HRG.out, HRP.out, ?_⟩
            rcases HST.out with ⟨m2, hrs, hmo, heq⟩ | hbd
            · rw [HKE.out] at heq
              exact .inl ⟨m2, hrs, heq.symm⟩
            · exact .inr hbd
      case rest =>
      obtain ⟨hgb, hrg, hrp, hst⟩ := hcut
      have HG := hid hgb
      have HRG := hid hrg
      have HRP := hid hrp
      clear hgb hrg hrp HGc HRGc HRPc HS0
      rcases hst with ⟨m2, hrs, heq⟩ | ⟨i, a, ee, m2, hrs, hmo, hle, hne, heq⟩
      · have HFN := hid (fine_any r mb b b.size 0 0 m2 wc hrs)
        have HRS := hid hrs
        have HEQ := hid heq
        have q0 : wc.cell? ⟨fo, 0, none⟩ = some (.int .i64 x) := HG.out.fb.cell 0
        have q1 : wc.cell? ⟨fo, 1, none⟩ = some (.slice ag gn ca) := HG.out.fb.cell 1
        have q2 : wc.cell? ⟨fo, 2, none⟩ = some (.slice ap pn cb) := HG.out.fb.cell 2
        have z0 : wc.cell? ⟨h, 0, none⟩ = some (.int .i64 0) := HG.out.b4.cell 0
        have z1 : wc.cell? ⟨h, 1, none⟩ = some (.slice none 0 0) := HG.out.b4.cell 1
        have z2 : wc.cell? ⟨h, 2, none⟩ = some (.slice none 0 0) := HG.out.b4.cell 2
        have y0 : wc.cell? ⟨z5, 0, none⟩ = some (.int .i64 0) := HG.out.b5.cell 0
        have y1 : wc.cell? ⟨z5, 1, none⟩ = some (.int .i64 0) := HG.out.b5.cell 1
        have fa0 := HG.out.b4.froz 0
        have fa1 := HG.out.b4.froz 1
        have fa2 := HG.out.b4.froz 2
        have fb0 := HG.out.b5.froz 0
        have fb1 := HG.out.b5.froz 1
        have hz1 : ¬ z5 = h := by have := HLT.out.2.2.2; omega
        have hz2 : ¬ h = z5 := by have := HLT.out.2.2.2; omega
        have hz3 : ¬ r = h := fun e => absurd (HRS.out.blk.same (e ▸ HG.out.b4)).2 (by decide)
        have hz4 : ¬ r = z5 := fun e => absurd (HRS.out.blk.same (e ▸ HG.out.b5)).2 (by decide)
        have hz5 : ¬ h = r := Ne.symm hz3
        have hz6 : ¬ z5 = r := Ne.symm hz4
        clear hrs heq
        go_wp2_with (go_at_call 38; refine HFN.out.mono ?_; rintro e' w' ⟨rfl, rfl⟩)
        obtain ⟨p1, p2, p3, p4, p5⟩ := putR2_all HH.out HLT.out.2.2.2 HG.out.b4 HG.out.b5 HG.out.on HRS.out.mt HMB.out (.int .i64 (x : Int)) (.slice ag gn ca) (.slice ap pn cb) (.int .i64 0) (.int .i64 0)
        refine bodyPost_ret (results16 p1 p2 rfl rfl) rfl ?_
        rw [HEQ.out]
        refine ⟨p3, p4, .slice ag gn ca, .slice ap pn cb, by rw [HEM.out.2.2.2], ?_, ?_⟩
        · rw [HEM.out.2.1, HGN.out, HH.out]
          exact row_keep2 HRG.out p5 (by
            intro q hq hm
            simp at hm
            rcases hm with rfl | rfl
            · exact own_ne HRG.out HG.out.b4 (by decide) hq
            · exact own_ne HRG.out HG.out.b5 (by decide) hq)
        · rw [HEM.out.2.2.1, HPN.out, HH.out]
          exact row_keep2 HRP.out p5 (by
            intro q hq hm
            simp at hm
            rcases hm with rfl | rfl
            · exact own_ne HRP.out HG.out.b4 (by decide) hq
            · exact own_ne HRP.out HG.out.b5 (by decide) hq)
      · have HFN := hid (fine_any r mb b i ee a m2 wc hrs)
        have hk2 : (ee == 0) = false := by simpa using hne
        rw [hk2] at HFN
        have HRS := hid hrs
        have HEQ := hid heq
        have q3 : wc.cell? ⟨r, 3, none⟩ = some (.int .i64 ee) := hrs.blk.cell 3
        have q4 : wc.cell? ⟨r, 4, none⟩ = some (.int .i64 a) := hrs.blk.cell 4
        have z0 : wc.cell? ⟨h, 0, none⟩ = some (.int .i64 0) := HG.out.b4.cell 0
        have z1 : wc.cell? ⟨h, 1, none⟩ = some (.slice none 0 0) := HG.out.b4.cell 1
        have z2 : wc.cell? ⟨h, 2, none⟩ = some (.slice none 0 0) := HG.out.b4.cell 2
        have y0 : wc.cell? ⟨z5, 0, none⟩ = some (.int .i64 0) := HG.out.b5.cell 0
        have y1 : wc.cell? ⟨z5, 1, none⟩ = some (.int .i64 0) := HG.out.b5.cell 1
        have fa0 := HG.out.b4.froz 0
        have fa1 := HG.out.b4.froz 1
        have fa2 := HG.out.b4.froz 2
        have fb0 := HG.out.b5.froz 0
        have fb1 := HG.out.b5.froz 1
        have hz1 : ¬ z5 = h := by have := HLT.out.2.2.2; omega
        have hz2 : ¬ h = z5 := by have := HLT.out.2.2.2; omega
        have hz3 : ¬ r = h := fun e => absurd (HRS.out.blk.same (e ▸ HG.out.b4)).2 (by decide)
        have hz4 : ¬ r = z5 := fun e => absurd (HRS.out.blk.same (e ▸ HG.out.b5)).2 (by decide)
        have hz5 : ¬ h = r := Ne.symm hz3
        have hz6 : ¬ z5 = r := Ne.symm hz4
        clear hrs heq hmo hle hne hk2
        go_wp2_with (go_at_call 38; refine HFN.out.mono ?_; rintro e' w' ⟨rfl, rfl⟩)
        have HSA : w'.drew.cell? ⟨r, 3, none⟩ = some (.int .i64 ee) ∧ w'.drew.cell? ⟨r, 4, none⟩ = some (.int .i64 a) := ⟨q3, q4⟩
        have HSB : (((w'.setCell ⟨h, 0, none⟩ (.int .i64 0)).setCell ⟨h, 1, none⟩ (.slice none 0 0)).setCell ⟨h, 2, none⟩ (.slice none 0 0)).drew.cell? ⟨r, 3, none⟩ = some (.int .i64 ee) ∧ (((w'.setCell ⟨h, 0, none⟩ (.int .i64 0)).setCell ⟨h, 1, none⟩ (.slice none 0 0)).setCell ⟨h, 2, none⟩ (.slice none 0 0)).drew.cell? ⟨r, 4, none⟩ = some (.int .i64 a) :=
          ⟨(((HRS.out.blk.other _ _ hz3).other _ _ hz3).other _ _ hz3).drew.cell 3, (((HRS.out.blk.other _ _ hz3).other _ _ hz3).other _ _ hz3).drew.cell 4⟩
        have HSC : (((((w'.setCell ⟨h, 0, none⟩ (.int .i64 0)).setCell ⟨h, 1, none⟩ (.slice none 0 0)).setCell ⟨h, 2, none⟩ (.slice none 0 0)).setCell ⟨z5, 0, none⟩ (.int .i64 ee)).setCell ⟨z5, 1, none⟩ (.int .i64 (a : Int))).drew.cell? ⟨r, 3, none⟩ = some (.int .i64 ee) ∧ (((((w'.setCell ⟨h, 0, none⟩ (.int .i64 0)).setCell ⟨h, 1, none⟩ (.slice none 0 0)).setCell ⟨h, 2, none⟩ (.slice none 0 0)).setCell ⟨z5, 0, none⟩ (.int .i64 ee)).setCell ⟨z5, 1, none⟩ (.int .i64 (a : Int))).drew.cell? ⟨r, 4, none⟩ = some (.int .i64 a) :=
          ⟨(((((HRS.out.blk.other _ _ hz3).other _ _ hz3).other _ _ hz3).other _ _ hz4).other _ _ hz4).drew.cell 3, (((((HRS.out.blk.other _ _ hz3).other _ _ hz3).other _ _ hz3).other _ _ hz4).other _ _ hz4).drew.cell 4⟩
        go_region_held3 (fun X => X.cell? ⟨r, 3, none⟩ = some (.int .i64 ee) ∧ X.cell? ⟨r, 4, none⟩ = some (.int .i64 a)) (with_reducible first | exact HSA | exact HSB | exact HSC) (fail)
        all_goals go_wp2_with fail
        obtain ⟨p1, p2, p3, p4, p5⟩ := putR2_all HH.out HLT.out.2.2.2 HG.out.b4 HG.out.b5 HG.out.on HRS.out.mt HMB.out (.int .i64 0) (.slice none 0 0) (.slice none 0 0) (.int .i64 ee) (.int .i64 (a : Int))
        refine bodyPost_ret (results16 p1.drew p2.drew rfl rfl) rfl ?_
        rw [HEQ.out]
        exact ⟨p3.drew, p4.drew, rfl⟩
end Go.Proofs.Ytdinlaoimpoolaa
