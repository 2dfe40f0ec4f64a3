/- The reference reads a pair. -/
import Derived.Test.YtdinlaoimpoolaaRefPair0
import Derived.Deep.Cut
import Derived.Deep.CutRange
namespace Go.Proofs.Ytdinlaoimpoolaa
open Go.RowKit

set_option maxRecDepth 100000 in
set_option maxHeartbeats 16000000 in
theorem pair_any (r mb : Nat) (b : ByteArray) (RES : M × ((Int × Nat) ⊕ St)) (s : St) (em : Int) (gs : List Gl) (ps : List Pr) (ag ap : Option Addr) (ca cb : Nat) (w : World) (hx10 : s.nx = 10) (hnu : s.nu = 0) (hgs : s.gs = gs) (hps : s.ps = ps) (hgw : ∀ g ∈ gs, 0 ≤ g.2.1 ∧ g.2.1 ≤ 4294967296) (hgl : gs.length ≤ 1024) (hpl : ps.length ≤ 4096) (hsz : b.size ≤ 9223372036854775807) (hT : TA r mb b RES s w)
    (hsg : ∀ X, Only [r, mb] w X → Sl X ag gs.length (gs.flatMap cg)) (hsp : ∀ X, Only [r, mb] w X → Sl X ap ps.length (ps.flatMap cp)) :
    Calls Try.prog 40 #[.pointer (some ⟨r, 0, none⟩), .agg #[.int .i64 em, .slice ag gs.length ca, .slice ap ps.length cb]] w (PairPost r mb b RES s w) := by
  have HX := hid hx10
  have HNU := hid hnu
  have HGS := hid hgs
  have HPS := hid hps
  have HSZ := hid hsz
  have HGW := hid hgw
  have HGLI := hid (fun X (h : Only [r, mb] w X) (u : Int) => gl_any em gs ag ap ca ps.length cb u X (by omega) (hsg X h))
  obtain ⟨n, hn⟩ : ∃ n, gs.length = n := ⟨_, rfl⟩
  obtain ⟨m, hm⟩ : ∃ m, ps.length = m := ⟨_, rfl⟩
  have HN := hid hn
  have HM := hid hm
  have HSG := hid hsg
  have HSP := hid hsp
  rw [hn] at hgl HSG HGLI ⊢
  rw [hm] at hpl HSP HGLI ⊢
  have hgl' : (n : Int) ≤ 1024 := by omega
  have hpl' : (m : Int) ≤ 4096 := by omega
  obtain ⟨h, hh⟩ : ∃ h, w.heap.size = h := ⟨_, rfl⟩
  have HH := hid hh
  have HF1 : Hid (Blk ((w.alloc (.cells #[.int .i64 em, .slice ag n ca, .slice ap m cb] 25)).alloc (.cells #[.int .i64 0, .int .i64 0, .bool false, .int .i64 0, .int .i64 0] 35)) h [.int .i64 em, .slice ag n ca, .slice ap m cb] 25) := hid ((Blk.new w _ 25 hh).alloc _)
  have HZ1 : Hid (Blk ((w.alloc (.cells #[.int .i64 em, .slice ag n ca, .slice ap m cb] 25)).alloc (.cells #[.int .i64 0, .int .i64 0, .bool false, .int .i64 0, .int .i64 0] 35)) (h + 1) [.int .i64 0, .int .i64 0, .bool false, .int .i64 0, .int .i64 0] 35) := hid (Blk.new (w.alloc _) _ 35 (by simp [hh]))
  have hb1 : Below w.heap.size w ((w.alloc (.cells #[.int .i64 em, .slice ag n ca, .slice ap m cb] 25)).alloc (.cells #[.int .i64 0, .int .i64 0, .bool false, .int .i64 0, .int .i64 0] 35)) := Below.al (Below.al (Below.refl _ w) _) _
  have HT1 := hid (hT.below hb1)
  have HO1 : Hid (Only [r, mb] w _) := hid ((Only.ofBelow hb1).mono (by simp))
  have HBK : Hid ((∃ xs, Blk w r xs 87) ∧ ∃ ys, Blk w mb ys 74) := hid hT.blocks
  have c2 : ((w.alloc (.cells #[.int .i64 em, .slice ag n ca, .slice ap m cb] 25)).alloc (.cells #[.int .i64 0, .int .i64 0, .bool false, .int .i64 0, .int .i64 0] 35)).cell? ⟨h, 2, none⟩ = some (.slice ap m cb) := HF1.out.cell 2
  clear hx10 hnu hgs hps hgw hgl hpl hsz hT hsg hsp hn hm hb1
  go_enter Try.func40, Try.ntmps40
  go_wp2_with fail
  obtain ⟨W1, hW1⟩ : ∃ W1, ((w.alloc (.cells #[.int .i64 em, .slice ag n ca, .slice ap m cb] 25)).alloc (.cells #[.int .i64 0, .int .i64 0, .bool false, .int .i64 0, .int .i64 0] 35)) = W1 := ⟨_, rfl⟩
  rw [hW1] at HF1 HZ1 HT1 HO1 c2 ⊢
  rw [show (3 : Int) = ((3 : Nat) : Int) from rfl]
  refine (number_f True r mb b RES s 3 (by rw [HX.out]; rfl) (by rw [HX.out]; decide) HSZ.out W1 HT1.out.taf).mono ?_
  rintro e W2 ⟨x0, rfl, hx0, ho2, hk2, ht2⟩
  have hx0i : (x0 : Int) ≤ 4294967295 := by omega
  have HO2 := hid (HO1.out.trans ho2)
  have HF2 := hid (hk2 _ _ _ (by decide) (by decide) HF1.out)
  have HZ2 := hid (hk2 _ _ _ (by decide) (by decide) HZ1.out)
  have HT2 := hid ht2
  clear hx0 ho2 hk2 ht2 hW1 HF1 HZ1 HT1 HO1 c2
  obtain ⟨d, hd⟩ : ∃ d, W2.heap.size = d := ⟨_, rfl⟩
  have hb3 : Below W2.heap.size W2 (W2.alloc (.cells #[.int .i64 (x0 : Int), .int .i64 0, .bool false, .int .i64 0, .int .i64 0] 35)) := Below.al (Below.refl _ W2) _
  have HO3 := hid (HO2.out.trans ((Only.ofBelow hb3).mono (by simp)) : Only [r, mb] w _)
  have HF3 := hid (HF2.out.below hb3)
  have HZ3 := hid (HZ2.out.below hb3)
  have HT3 := hid (HT2.out.below hb3)
  have HD3 : Hid (Blk (W2.alloc (.cells #[.int .i64 (x0 : Int), .int .i64 0, .bool false, .int .i64 0, .int .i64 0] 35)) d [.int .i64 (x0 : Int), .int .i64 0, .bool false, .int .i64 0, .int .i64 0] 35) := hid (Blk.new W2 _ 35 hd)
  have HDL : Hid (h + 1 < d ∧ w.heap.size ≤ d) := hid (by have h1 := HZ2.out.lt; have h2 := HO2.out.size; omega)
  have a0 : (W2.alloc (.cells #[.int .i64 (x0 : Int), .int .i64 0, .bool false, .int .i64 0, .int .i64 0] 35)).cell? ⟨h, 0, none⟩ = some (.int .i64 em) := HF3.out.cell 0
  have a1 : (W2.alloc (.cells #[.int .i64 (x0 : Int), .int .i64 0, .bool false, .int .i64 0, .int .i64 0] 35)).cell? ⟨h, 1, none⟩ = some (.slice ag n ca) := HF3.out.cell 1
  have a2 : (W2.alloc (.cells #[.int .i64 (x0 : Int), .int .i64 0, .bool false, .int .i64 0, .int .i64 0] 35)).cell? ⟨h, 2, none⟩ = some (.slice ap m cb) := HF3.out.cell 2
  clear hb3
  go_wp2_with fail
  obtain ⟨W3, hW3⟩ : ∃ W3, W2.alloc (.cells #[.int .i64 (x0 : Int), .int .i64 0, .bool false, .int .i64 0, .int .i64 0] 35) = W3 := ⟨_, rfl⟩
  rw [hW3] at HO3 HF3 HZ3 HT3 HD3 a0 a1 a2 ⊢
  clear hW3 hd HO2 HF2 HZ2 HT2
  refine (HGLI.out W3 HO3.out x0).mono ?_
  rintro e WD ⟨⟨z, rfl, hz⟩, hbd⟩
  have HZL := hid hz
  have HO3 := hid (HO3.out.trans ((Only.ofBelow hbd).mono (by simp)) : Only [r, mb] w WD)
  have HF3 := hid (HF3.out.below hbd)
  have HZ3 := hid (HZ3.out.below hbd)
  have HT3 := hid (HT3.out.below hbd)
  have HD3 := hid (HD3.out.below hbd)
  have HXN : Hid (s.nx ≠ 15) := hid (by rw [HX.out]; decide)
  clear hz hbd a0 a1 a2
  go_wp2_with fail
  go_cut [] from 21 to 40 (fun wx => Only [r, mb] w wx ∧ Blk wx h [Value.int .i64 em, .slice ag n ca, .slice ap m cb] 25 ∧ Blk wx d [.int .i64 (x0 : Int), .int .i64 0, .bool false, .int .i64 0, .int .i64 0] 35 ∧ Blk wx (h + 1) [.int .i64 0, .int .i64 0, .bool false, .int .i64 0, .int .i64 0] 35 ∧ TAF (hasG gs x0 = true) r mb b RES (g1 s x0) wx)
  case first =>
    have hge := gl_ge HZL.out
    rcases hb1 : decide (0 ≤ z) with _ | _
    · have HB1 := hid hb1
      have HOK : Hid (false = fits (read s (sz s.nx) x0) x0) := hid (by
        rw [fits10 HX.out x0, HGS.out, ← hge, hb1]; rfl)
      have HST0 : Hid (PairSt w r mb b RES True s x0 false h d [Value.int .i64 em, .slice ag n ca, .slice ap m cb] [.int .i64 (x0 : Int), .int .i64 0, .bool false, .int .i64 0, .int .i64 0] 0 WD.drew) := hid ⟨HO3.out.drew, HF3.out, HD3.out, HZ3.out, by rw [if_pos rfl]; exact ⟨HT3.out.below (Below.refl _ _).drew, fun _ => HOK.out⟩⟩
      clear hge hb1
      refine effects (ci := fun i => ([19] : List Nat).getD i 0) (val := fun i => ([some (.pointer (some ⟨r, 0, none⟩)), some (.int .i64 z), some (.bool false), some (.bool false), some (undef), some (undef), some (undef), some (undef), some (undef), some (undef), some (undef), some (undef), some (undef), some (undef), some (undef), some (undef), some (undef), some (undef), some (.bool false), none] : List (Option Value)).getD i none) (fun j X _ => PairSt w r mb b RES True s x0 false h d [.int .i64 em, .slice ag n ca, .slice ap m cb] [.int .i64 (x0 : Int), .int .i64 0, .bool false, .int .i64 0, .int .i64 0] j X) undef
        (by kernel_rfl) (by kernel_rfl) (by kernel_rfl) (show 0 < 1 by decide) HST0.out (by kernel_rfl) (by kernel_rfl) ?hcall ?hp ⟨_, _, rfl, rfl⟩ [21, 22, 23, 24, 25, 26, 27, 28, 29, 30, 31, 32, 33, 34, 35, 36, 37, 38, 39, 40] (by kernel_rfl) ?he
      case hcall =>
        intro j hj
        obtain rfl : j = 0 := by omega
        refine ⟨_, rfl, fun h0 => absurd h0 (by decide), fun a X v hSt hr hh _ _ K hK => ?_⟩
        refine wpOp_one rfl rfl (wp_enter (run_call37 rfl ((hh 0 _ (by kernel_rfl) rfl).only rfl rfl) ((hh 18 _ (by kernel_rfl) rfl).only rfl rfl)) ((pairSt_must hSt HXN.out HSZ.out).mono ?_))
        rintro e X' ⟨rfl, hS'⟩
        exact ⟨_, rfl, hK _ _ hS'⟩
      case hp =>
        intro i o ho
        rcases i with _ | _ | _ | _ | _ | _ | _ | _ | _ | _ | _ | _ | _ | _ | _ | _ | _ | _ | _ | _ | i
        · cases ho
          refine .inr ⟨_, rfl, fun j v' a X hj hSt hr hh => ?_⟩
          obtain ⟨hO, hH, hD, hZ, _⟩ := hSt
          exact does_run rfl rfl (run_move rfl (eval_tmp (hr.2.2 0 (by kernel_rfl))))
        · cases ho
          refine .inr ⟨_, rfl, fun j v' a X hj hSt hr hh => ?_⟩
          obtain ⟨hO, hH, hD, hZ, _⟩ := hSt
          exact does_run rfl rfl (run_move rfl (eval_tmp (hr.2.2 7 (by kernel_rfl))))
        · cases ho
          refine .inr ⟨_, rfl, fun j v' a X hj hSt hr hh => ?_⟩
          obtain ⟨hO, hH, hD, hZ, _⟩ := hSt
          exact does_run rfl rfl (run_geq rfl ((hh 1 _ (by kernel_rfl) rfl).only rfl rfl) rfl HB1.out)
        · cases ho
          refine .inr ⟨_, rfl, fun j v' a X hj hSt hr hh => ?_⟩
          obtain ⟨hO, hH, hD, hZ, _⟩ := hSt
          exact does_run rfl rfl (run_move rfl ((hh 2 _ (by kernel_rfl) rfl).only rfl rfl))
        · cases ho
          refine .inr ⟨_, rfl, fun j v' a X hj hSt hr hh => ?_⟩
          obtain ⟨hO, hH, hD, hZ, _⟩ := hSt
          exact does_off rfl rfl rfl (hh 3 _ (by kernel_rfl) rfl) rfl
        · cases ho
          refine .inr ⟨_, rfl, fun j v' a X hj hSt hr hh => ?_⟩
          obtain ⟨hO, hH, hD, hZ, _⟩ := hSt
          exact does_off rfl rfl rfl (hh 3 _ (by kernel_rfl) rfl) rfl
        · cases ho
          refine .inr ⟨_, rfl, fun j v' a X hj hSt hr hh => ?_⟩
          obtain ⟨hO, hH, hD, hZ, _⟩ := hSt
          exact does_off rfl rfl rfl (hh 3 _ (by kernel_rfl) rfl) rfl
        · cases ho
          refine .inr ⟨_, rfl, fun j v' a X hj hSt hr hh => ?_⟩
          obtain ⟨hO, hH, hD, hZ, _⟩ := hSt
          exact does_undef rfl rfl rfl (hh 6 _ (by kernel_rfl) rfl)
        · cases ho
          refine .inr ⟨_, rfl, fun j v' a X hj hSt hr hh => ?_⟩
          obtain ⟨hO, hH, hD, hZ, _⟩ := hSt
          exact does_undef rfl rfl rfl (hh 6 _ (by kernel_rfl) rfl)
        · cases ho
          refine .inr ⟨_, rfl, fun j v' a X hj hSt hr hh => ?_⟩
          obtain ⟨hO, hH, hD, hZ, _⟩ := hSt
          exact does_undef rfl rfl rfl (hh 6 _ (by kernel_rfl) rfl)
        · cases ho
          refine .inr ⟨_, rfl, fun j v' a X hj hSt hr hh => ?_⟩
          obtain ⟨hO, hH, hD, hZ, _⟩ := hSt
          exact does_undef rfl rfl rfl (hh 6 _ (by kernel_rfl) rfl)
        · cases ho
          refine .inr ⟨_, rfl, fun j v' a X hj hSt hr hh => ?_⟩
          obtain ⟨hO, hH, hD, hZ, _⟩ := hSt
          exact does_undef rfl rfl rfl (hh 6 _ (by kernel_rfl) rfl)
        · cases ho
          refine .inr ⟨_, rfl, fun j v' a X hj hSt hr hh => ?_⟩
          obtain ⟨hO, hH, hD, hZ, _⟩ := hSt
          exact does_undef rfl rfl rfl (hh 6 _ (by kernel_rfl) rfl)
        · cases ho
          refine .inr ⟨_, rfl, fun j v' a X hj hSt hr hh => ?_⟩
          obtain ⟨hO, hH, hD, hZ, _⟩ := hSt
          exact does_undef rfl rfl rfl (hh 6 _ (by kernel_rfl) rfl)
        · cases ho
          refine .inr ⟨_, rfl, fun j v' a X hj hSt hr hh => ?_⟩
          obtain ⟨hO, hH, hD, hZ, _⟩ := hSt
          exact does_undef rfl rfl rfl (hh 6 _ (by kernel_rfl) rfl)
        · cases ho
          refine .inr ⟨_, rfl, fun j v' a X hj hSt hr hh => ?_⟩
          obtain ⟨hO, hH, hD, hZ, _⟩ := hSt
          exact does_undef rfl rfl rfl (hh 6 _ (by kernel_rfl) rfl)
        · cases ho
          refine .inr ⟨_, rfl, fun j v' a X hj hSt hr hh => ?_⟩
          obtain ⟨hO, hH, hD, hZ, _⟩ := hSt
          exact does_undef rfl rfl rfl (hh 6 _ (by kernel_rfl) rfl)
        · cases ho
          refine .inr ⟨_, rfl, fun j v' a X hj hSt hr hh => ?_⟩
          obtain ⟨hO, hH, hD, hZ, _⟩ := hSt
          exact does_off rfl rfl rfl (hh 3 _ (by kernel_rfl) rfl) rfl
        · cases ho
          refine .inr ⟨_, rfl, fun j v' a X hj hSt hr hh => ?_⟩
          obtain ⟨hO, hH, hD, hZ, _⟩ := hSt
          exact does_run rfl rfl (run_pick rfl ((hh 3 _ (by kernel_rfl) rfl).only rfl rfl) ((hh 17 _ (by kernel_rfl) rfl).only rfl rfl) rfl)
        · exact .inl ⟨0, by decide, rfl⟩
        · cases ho
      case he =>
        intro us wx _ hS
        simp only [List.foldl_cons, List.foldl_nil, List.setIfInBounds_toArray, List.set_cons_succ, List.set_cons_zero]
        generalize us 21 = u21; generalize us 22 = u22; generalize us 23 = u23; generalize us 24 = u24; generalize us 25 = u25; generalize us 26 = u26; generalize us 27 = u27; generalize us 28 = u28; generalize us 29 = u29; generalize us 30 = u30; generalize us 31 = u31; generalize us 32 = u32; generalize us 33 = u33; generalize us 34 = u34; generalize us 35 = u35; generalize us 36 = u36; generalize us 37 = u37; generalize us 38 = u38; generalize us 39 = u39; generalize us 40 = u40
        go_wp2_with fail
        go_meet
        obtain ⟨q1, q2, q3, q4, q5⟩ := hS
        rw [if_neg (by decide)] at q5
        exact ⟨q1, q2, q3, q4, q5.imp (fun q => by have h1 := HOK.out.symm.trans q.2; rw [fits10 HX.out, HGS.out] at h1; simp only [Bool.and_eq_true] at h1; exact h1.1)⟩
    · have HB1 := hid hb1
      have hhas : hasG gs (x0 : Int) = true := by rw [← hge, hb1]
      rcases hb2 : ((m : Int) == 0) with _ | _
      · have HB2 := hid hb2
        obtain ⟨k, hk⟩ : ∃ k, m = k + 1 := ⟨m - 1, by
          have : ¬ (m : Int) = 0 := by simpa using hb2
          omega⟩
        subst hk
        obtain ⟨l, hl⟩ := some_at (xs := ps) (i := k) (by rw [HM.out]; exact Nat.lt_succ_self k)
        obtain ⟨bq, off, rfl, _, hga⟩ := Sl.pair' (HSP.out w (Only.refl _ _)) HM.out hl
        have hah : (aheadP s.ps) = l := by
          rw [HPS.out]
          unfold aheadP
          rw [List.getLast?_eq_getElem?, HM.out, Nat.add_sub_cancel, hl]; rfl
        have HKL : Hid (k ≤ 1000000) := hid (by omega)
        obtain ⟨l0, l1, l2, l3, l4⟩ := l
        have HLC : Hid (∀ X, Only [r, mb] w X → X.cell? ⟨bq, off + k * 5, none⟩ = some (.int .i64 l0) ∧ X.cell? ⟨bq, off + k * 5 + 1, none⟩ = some (.int .i64 l1)) := hid fun X hX => by
          obtain ⟨b2, off2, e, _, hga2⟩ := Sl.pair' (HSP.out X hX) HM.out hl
          cases e
          exact ⟨hga2.c0, hga2.c1⟩
        obtain ⟨b3, hb3⟩ : ∃ b3, decide (l0 ≤ (x0 : Int)) = b3 := ⟨_, rfl⟩
        have HB3 := hid hb3
        have HOK : Hid (b3 = fits (read s (sz s.nx) x0) x0) := hid (by
          rw [fits10 HX.out x0, HGS.out, hah, hhas, ← hb3]; rfl)
        have HST0 : Hid (PairSt w r mb b RES True s x0 b3 h d [Value.int .i64 em, .slice ag n ca, .slice (some ⟨bq, off, none⟩) (k + 1) cb] [.int .i64 (x0 : Int), .int .i64 0, .bool false, .int .i64 0, .int .i64 0] 0 WD.drew) := hid ⟨HO3.out.drew, HF3.out, HD3.out, HZ3.out, by rw [if_pos rfl]; exact ⟨HT3.out.below (Below.refl _ _).drew, fun _ => HOK.out⟩⟩
        clear hge hb1 hb2 hb3 hl hga hah hhas
        refine effects (ci := fun i => ([19] : List Nat).getD i 0) (val := fun i => ([some (.pointer (some ⟨r, 0, none⟩)), some (.int .i64 z), some (.bool true), some (.bool true), some (.int .i64 ((k + 1 : Nat) : Int)), some (.bool false), some (.bool false), some (.pointer (some ⟨d, 0, none⟩)), some (.int .i64 (x0 : Int)), some (.pointer (some ⟨h, 2, none⟩)), some (.slice (some ⟨bq, off, none⟩) (k + 1) cb), some (.int .i64 ((k + 1 : Nat) : Int)), some (.int .i64 (k : Int)), some (.pointer (some ⟨bq, off + k * 5, none⟩)), some (.pointer (some ⟨bq, off + k * 5, none⟩)), some (.int .i64 l0), some (.bool b3), some (.bool b3), some (.bool b3), none] : List (Option Value)).getD i none) (fun j X _ => PairSt w r mb b RES True s x0 b3 h d [.int .i64 em, .slice ag n ca, .slice (some ⟨bq, off, none⟩) (k + 1) cb] [.int .i64 (x0 : Int), .int .i64 0, .bool false, .int .i64 0, .int .i64 0] j X) undef
          (by kernel_rfl) (by kernel_rfl) (by kernel_rfl) (show 0 < 1 by decide) HST0.out (by kernel_rfl) (by kernel_rfl) ?hcall ?hp ⟨_, _, rfl, rfl⟩ [21, 22, 23, 24, 25, 26, 27, 28, 29, 30, 31, 32, 33, 34, 35, 36, 37, 38, 39, 40] (by kernel_rfl) ?he
        case hcall =>
          intro j hj
          obtain rfl : j = 0 := by omega
          refine ⟨_, rfl, fun h0 => absurd h0 (by decide), fun a X v hSt hr hh _ _ K hK => ?_⟩
          refine wpOp_one rfl rfl (wp_enter (run_call37 rfl ((hh 0 _ (by kernel_rfl) rfl).only rfl rfl) ((hh 18 _ (by kernel_rfl) rfl).only rfl rfl)) ((pairSt_must hSt HXN.out HSZ.out).mono ?_))
          rintro e X' ⟨rfl, hS'⟩
          exact ⟨_, rfl, hK _ _ hS'⟩
        case hp =>
          intro i o ho
          rcases i with _ | _ | _ | _ | _ | _ | _ | _ | _ | _ | _ | _ | _ | _ | _ | _ | _ | _ | _ | _ | i
          · cases ho
            refine .inr ⟨_, rfl, fun j v' a X hj hSt hr hh => ?_⟩
            obtain ⟨hO, hH, hD, hZ, _⟩ := hSt
            exact does_run rfl rfl (run_move rfl (eval_tmp (hr.2.2 0 (by kernel_rfl))))
          · cases ho
            refine .inr ⟨_, rfl, fun j v' a X hj hSt hr hh => ?_⟩
            obtain ⟨hO, hH, hD, hZ, _⟩ := hSt
            exact does_run rfl rfl (run_move rfl (eval_tmp (hr.2.2 7 (by kernel_rfl))))
          · cases ho
            refine .inr ⟨_, rfl, fun j v' a X hj hSt hr hh => ?_⟩
            obtain ⟨hO, hH, hD, hZ, _⟩ := hSt
            exact does_run rfl rfl (run_geq rfl ((hh 1 _ (by kernel_rfl) rfl).only rfl rfl) rfl HB1.out)
          · cases ho
            refine .inr ⟨_, rfl, fun j v' a X hj hSt hr hh => ?_⟩
            obtain ⟨hO, hH, hD, hZ, _⟩ := hSt
            exact does_run rfl rfl (run_move rfl ((hh 2 _ (by kernel_rfl) rfl).only rfl rfl))
          · cases ho
            refine .inr ⟨_, rfl, fun j v' a X hj hSt hr hh => ?_⟩
            obtain ⟨hO, hH, hD, hZ, _⟩ := hSt
            exact does_on rfl rfl rfl (hh 3 _ (by kernel_rfl) rfl) (run_move rfl (eval_tmp (hr.2.2 5 (by kernel_rfl))))
          · cases ho
            refine .inr ⟨_, rfl, fun j v' a X hj hSt hr hh => ?_⟩
            obtain ⟨hO, hH, hD, hZ, _⟩ := hSt
            exact does_on rfl rfl rfl (hh 3 _ (by kernel_rfl) rfl) (run_eql rfl ((hh 4 _ (by kernel_rfl) rfl).only rfl rfl) rfl HB2.out)
          · cases ho
            refine .inr ⟨_, rfl, fun j v' a X hj hSt hr hh => ?_⟩
            obtain ⟨hO, hH, hD, hZ, _⟩ := hSt
            exact does_on rfl rfl rfl (hh 3 _ (by kernel_rfl) rfl) (run_move rfl ((hh 5 _ (by kernel_rfl) rfl).only rfl rfl))
          · cases ho
            refine .inr ⟨_, rfl, fun j v' a X hj hSt hr hh => ?_⟩
            obtain ⟨hO, hH, hD, hZ, _⟩ := hSt
            exact does_on rfl rfl rfl (hh 6 _ (by kernel_rfl) rfl) (run_fa35_0 rfl (eval_tmp (hr.2.2 6 (by kernel_rfl))))
          · cases ho
            refine .inr ⟨_, rfl, fun j v' a X hj hSt hr hh => ?_⟩
            obtain ⟨hO, hH, hD, hZ, _⟩ := hSt
            exact does_on rfl rfl rfl (hh 6 _ (by kernel_rfl) rfl) (run_load3 rfl ((hh 7 _ (by kernel_rfl) rfl).only rfl rfl) (hD.cell 0))
          · cases ho
            refine .inr ⟨_, rfl, fun j v' a X hj hSt hr hh => ?_⟩
            obtain ⟨hO, hH, hD, hZ, _⟩ := hSt
            exact does_on rfl rfl rfl (hh 6 _ (by kernel_rfl) rfl) (run_fa25_2 rfl (eval_tmp (hr.2.2 3 (by kernel_rfl))))
          · cases ho
            refine .inr ⟨_, rfl, fun j v' a X hj hSt hr hh => ?_⟩
            obtain ⟨hO, hH, hD, hZ, _⟩ := hSt
            exact does_on rfl rfl rfl (hh 6 _ (by kernel_rfl) rfl) (run_load23 rfl ((hh 9 _ (by kernel_rfl) rfl).only rfl rfl) (hH.cell 2))
          · cases ho
            refine .inr ⟨_, rfl, fun j v' a X hj hSt hr hh => ?_⟩
            obtain ⟨hO, hH, hD, hZ, _⟩ := hSt
            exact does_on rfl rfl rfl (hh 6 _ (by kernel_rfl) rfl) (run_move rfl (eval_tmp (hr.2.2 5 (by kernel_rfl))))
          · cases ho
            refine .inr ⟨_, rfl, fun j v' a X hj hSt hr hh => ?_⟩
            obtain ⟨hO, hH, hD, hZ, _⟩ := hSt
            exact does_on rfl rfl rfl (hh 6 _ (by kernel_rfl) rfl) (run_sub1 rfl ((hh 11 _ (by kernel_rfl) rfl).only rfl rfl) HKL.out)
          · cases ho
            refine .inr ⟨_, rfl, fun j v' a X hj hSt hr hh => ?_⟩
            obtain ⟨hO, hH, hD, hZ, _⟩ := hSt
            exact does_on rfl rfl rfl (hh 6 _ (by kernel_rfl) rfl) (run_ix23 rfl ((hh 10 _ (by kernel_rfl) rfl).only rfl rfl) ((hh 12 _ (by kernel_rfl) rfl).only rfl rfl) (Nat.lt_succ_self k))
          · cases ho
            refine .inr ⟨_, rfl, fun j v' a X hj hSt hr hh => ?_⟩
            obtain ⟨hO, hH, hD, hZ, _⟩ := hSt
            exact does_on rfl rfl rfl (hh 6 _ (by kernel_rfl) rfl) (run_at35_0 rfl ((hh 13 _ (by kernel_rfl) rfl).only rfl rfl))
          · cases ho
            refine .inr ⟨_, rfl, fun j v' a X hj hSt hr hh => ?_⟩
            obtain ⟨hO, hH, hD, hZ, _⟩ := hSt
            exact does_on rfl rfl rfl (hh 6 _ (by kernel_rfl) rfl) (run_load3 rfl ((hh 14 _ (by kernel_rfl) rfl).only rfl rfl) (HLC.out X hO).1)
          · cases ho
            refine .inr ⟨_, rfl, fun j v' a X hj hSt hr hh => ?_⟩
            obtain ⟨hO, hH, hD, hZ, _⟩ := hSt
            exact does_on rfl rfl rfl (hh 6 _ (by kernel_rfl) rfl) (run_geq rfl ((hh 8 _ (by kernel_rfl) rfl).only rfl rfl) ((hh 15 _ (by kernel_rfl) rfl).only rfl rfl) HB3.out)
          · cases ho
            refine .inr ⟨_, rfl, fun j v' a X hj hSt hr hh => ?_⟩
            obtain ⟨hO, hH, hD, hZ, _⟩ := hSt
            exact does_on rfl rfl rfl (hh 3 _ (by kernel_rfl) rfl) (run_pick rfl ((hh 6 _ (by kernel_rfl) rfl).only rfl rfl) rfl ((hh 16 _ (by kernel_rfl) rfl).only rfl rfl))
          · cases ho
            refine .inr ⟨_, rfl, fun j v' a X hj hSt hr hh => ?_⟩
            obtain ⟨hO, hH, hD, hZ, _⟩ := hSt
            exact does_run rfl rfl (run_pick rfl ((hh 3 _ (by kernel_rfl) rfl).only rfl rfl) ((hh 17 _ (by kernel_rfl) rfl).only rfl rfl) rfl)
          · exact .inl ⟨0, by decide, rfl⟩
          · cases ho
        case he =>
          intro us wx _ hS
          simp only [List.foldl_cons, List.foldl_nil, List.setIfInBounds_toArray, List.set_cons_succ, List.set_cons_zero]
          generalize us 21 = u21; generalize us 22 = u22; generalize us 23 = u23; generalize us 24 = u24; generalize us 25 = u25; generalize us 26 = u26; generalize us 27 = u27; generalize us 28 = u28; generalize us 29 = u29; generalize us 30 = u30; generalize us 31 = u31; generalize us 32 = u32; generalize us 33 = u33; generalize us 34 = u34; generalize us 35 = u35; generalize us 36 = u36; generalize us 37 = u37; generalize us 38 = u38; generalize us 39 = u39; generalize us 40 = u40
          go_wp2_with fail
          go_meet
          obtain ⟨q1, q2, q3, q4, q5⟩ := hS
          rw [if_neg (by decide)] at q5
          exact ⟨q1, q2, q3, q4, q5.imp (fun q => by have h1 := HOK.out.symm.trans q.2; rw [fits10 HX.out, HGS.out] at h1; simp only [Bool.and_eq_true] at h1; exact h1.1)⟩
      · have HB2 := hid hb2
        have HOK : Hid (true = fits (read s (sz s.nx) x0) x0) := hid (by
          have h0 : m = 0 := by
            have : (m : Int) = 0 := by simpa using hb2
            omega
          have h1 : ps = [] := List.eq_nil_of_length_eq_zero (by rw [HM.out]; exact h0)
          have h3 : (aheadP ([] : List Pr)).1 = -1 := rfl
          have h4 : (-1 : Int) < (x0 : Int) := by omega
          have h5 : (-1 : Int) ≤ (x0 : Int) := by omega
          rw [fits10 HX.out x0, HGS.out, HPS.out, h1, h3, hhas]
          simp [h5])
        have HST0 : Hid (PairSt w r mb b RES True s x0 true h d [Value.int .i64 em, .slice ag n ca, .slice ap m cb] [.int .i64 (x0 : Int), .int .i64 0, .bool false, .int .i64 0, .int .i64 0] 0 WD.drew) := hid ⟨HO3.out.drew, HF3.out, HD3.out, HZ3.out, by rw [if_pos rfl]; exact ⟨HT3.out.below (Below.refl _ _).drew, fun _ => HOK.out⟩⟩
        clear hge hb1 hb2 hhas
        refine effects (ci := fun i => ([19] : List Nat).getD i 0) (val := fun i => ([some (.pointer (some ⟨r, 0, none⟩)), some (.int .i64 z), some (.bool true), some (.bool true), some (.int .i64 (m : Int)), some (.bool true), some (.bool true), some (undef), some (undef), some (undef), some (undef), some (undef), some (undef), some (undef), some (undef), some (undef), some (undef), some (.bool true), some (.bool true), none] : List (Option Value)).getD i none) (fun j X _ => PairSt w r mb b RES True s x0 true h d [.int .i64 em, .slice ag n ca, .slice ap m cb] [.int .i64 (x0 : Int), .int .i64 0, .bool false, .int .i64 0, .int .i64 0] j X) undef
          (by kernel_rfl) (by kernel_rfl) (by kernel_rfl) (show 0 < 1 by decide) HST0.out (by kernel_rfl) (by kernel_rfl) ?hcall ?hp ⟨_, _, rfl, rfl⟩ [21, 22, 23, 24, 25, 26, 27, 28, 29, 30, 31, 32, 33, 34, 35, 36, 37, 38, 39, 40] (by kernel_rfl) ?he
        case hcall =>
          intro j hj
          obtain rfl : j = 0 := by omega
          refine ⟨_, rfl, fun h0 => absurd h0 (by decide), fun a X v hSt hr hh _ _ K hK => ?_⟩
          refine wpOp_one rfl rfl (wp_enter (run_call37 rfl ((hh 0 _ (by kernel_rfl) rfl).only rfl rfl) ((hh 18 _ (by kernel_rfl) rfl).only rfl rfl)) ((pairSt_must hSt HXN.out HSZ.out).mono ?_))
          rintro e X' ⟨rfl, hS'⟩
          exact ⟨_, rfl, hK _ _ hS'⟩
        case hp =>
          intro i o ho
          rcases i with _ | _ | _ | _ | _ | _ | _ | _ | _ | _ | _ | _ | _ | _ | _ | _ | _ | _ | _ | _ | i
          · cases ho
            refine .inr ⟨_, rfl, fun j v' a X hj hSt hr hh => ?_⟩
            obtain ⟨hO, hH, hD, hZ, _⟩ := hSt
            exact does_run rfl rfl (run_move rfl (eval_tmp (hr.2.2 0 (by kernel_rfl))))
          · cases ho
            refine .inr ⟨_, rfl, fun j v' a X hj hSt hr hh => ?_⟩
            obtain ⟨hO, hH, hD, hZ, _⟩ := hSt
            exact does_run rfl rfl (run_move rfl (eval_tmp (hr.2.2 7 (by kernel_rfl))))
          · cases ho
            refine .inr ⟨_, rfl, fun j v' a X hj hSt hr hh => ?_⟩
            obtain ⟨hO, hH, hD, hZ, _⟩ := hSt
            exact does_run rfl rfl (run_geq rfl ((hh 1 _ (by kernel_rfl) rfl).only rfl rfl) rfl HB1.out)
          · cases ho
            refine .inr ⟨_, rfl, fun j v' a X hj hSt hr hh => ?_⟩
            obtain ⟨hO, hH, hD, hZ, _⟩ := hSt
            exact does_run rfl rfl (run_move rfl ((hh 2 _ (by kernel_rfl) rfl).only rfl rfl))
          · cases ho
            refine .inr ⟨_, rfl, fun j v' a X hj hSt hr hh => ?_⟩
            obtain ⟨hO, hH, hD, hZ, _⟩ := hSt
            exact does_on rfl rfl rfl (hh 3 _ (by kernel_rfl) rfl) (run_move rfl (eval_tmp (hr.2.2 5 (by kernel_rfl))))
          · cases ho
            refine .inr ⟨_, rfl, fun j v' a X hj hSt hr hh => ?_⟩
            obtain ⟨hO, hH, hD, hZ, _⟩ := hSt
            exact does_on rfl rfl rfl (hh 3 _ (by kernel_rfl) rfl) (run_eql rfl ((hh 4 _ (by kernel_rfl) rfl).only rfl rfl) rfl HB2.out)
          · cases ho
            refine .inr ⟨_, rfl, fun j v' a X hj hSt hr hh => ?_⟩
            obtain ⟨hO, hH, hD, hZ, _⟩ := hSt
            exact does_on rfl rfl rfl (hh 3 _ (by kernel_rfl) rfl) (run_move rfl ((hh 5 _ (by kernel_rfl) rfl).only rfl rfl))
          · cases ho
            refine .inr ⟨_, rfl, fun j v' a X hj hSt hr hh => ?_⟩
            obtain ⟨hO, hH, hD, hZ, _⟩ := hSt
            exact does_off rfl rfl rfl (hh 6 _ (by kernel_rfl) rfl) rfl
          · cases ho
            refine .inr ⟨_, rfl, fun j v' a X hj hSt hr hh => ?_⟩
            obtain ⟨hO, hH, hD, hZ, _⟩ := hSt
            exact does_off rfl rfl rfl (hh 6 _ (by kernel_rfl) rfl) rfl
          · cases ho
            refine .inr ⟨_, rfl, fun j v' a X hj hSt hr hh => ?_⟩
            obtain ⟨hO, hH, hD, hZ, _⟩ := hSt
            exact does_off rfl rfl rfl (hh 6 _ (by kernel_rfl) rfl) rfl
          · cases ho
            refine .inr ⟨_, rfl, fun j v' a X hj hSt hr hh => ?_⟩
            obtain ⟨hO, hH, hD, hZ, _⟩ := hSt
            exact does_off rfl rfl rfl (hh 6 _ (by kernel_rfl) rfl) rfl
          · cases ho
            refine .inr ⟨_, rfl, fun j v' a X hj hSt hr hh => ?_⟩
            obtain ⟨hO, hH, hD, hZ, _⟩ := hSt
            exact does_off rfl rfl rfl (hh 6 _ (by kernel_rfl) rfl) rfl
          · cases ho
            refine .inr ⟨_, rfl, fun j v' a X hj hSt hr hh => ?_⟩
            obtain ⟨hO, hH, hD, hZ, _⟩ := hSt
            exact does_off rfl rfl rfl (hh 6 _ (by kernel_rfl) rfl) rfl
          · cases ho
            refine .inr ⟨_, rfl, fun j v' a X hj hSt hr hh => ?_⟩
            obtain ⟨hO, hH, hD, hZ, _⟩ := hSt
            exact does_off rfl rfl rfl (hh 6 _ (by kernel_rfl) rfl) rfl
          · cases ho
            refine .inr ⟨_, rfl, fun j v' a X hj hSt hr hh => ?_⟩
            obtain ⟨hO, hH, hD, hZ, _⟩ := hSt
            exact does_off rfl rfl rfl (hh 6 _ (by kernel_rfl) rfl) rfl
          · cases ho
            refine .inr ⟨_, rfl, fun j v' a X hj hSt hr hh => ?_⟩
            obtain ⟨hO, hH, hD, hZ, _⟩ := hSt
            exact does_off rfl rfl rfl (hh 6 _ (by kernel_rfl) rfl) rfl
          · cases ho
            refine .inr ⟨_, rfl, fun j v' a X hj hSt hr hh => ?_⟩
            obtain ⟨hO, hH, hD, hZ, _⟩ := hSt
            exact does_off rfl rfl rfl (hh 6 _ (by kernel_rfl) rfl) rfl
          · cases ho
            refine .inr ⟨_, rfl, fun j v' a X hj hSt hr hh => ?_⟩
            obtain ⟨hO, hH, hD, hZ, _⟩ := hSt
            exact does_on rfl rfl rfl (hh 3 _ (by kernel_rfl) rfl) (run_pick rfl ((hh 6 _ (by kernel_rfl) rfl).only rfl rfl) rfl ((hh 16 _ (by kernel_rfl) rfl).only rfl rfl))
          · cases ho
            refine .inr ⟨_, rfl, fun j v' a X hj hSt hr hh => ?_⟩
            obtain ⟨hO, hH, hD, hZ, _⟩ := hSt
            exact does_run rfl rfl (run_pick rfl ((hh 3 _ (by kernel_rfl) rfl).only rfl rfl) ((hh 17 _ (by kernel_rfl) rfl).only rfl rfl) rfl)
          · exact .inl ⟨0, by decide, rfl⟩
          · cases ho
        case he =>
          intro us wx _ hS
          simp only [List.foldl_cons, List.foldl_nil, List.setIfInBounds_toArray, List.set_cons_succ, List.set_cons_zero]
          generalize us 21 = u21; generalize us 22 = u22; generalize us 23 = u23; generalize us 24 = u24; generalize us 25 = u25; generalize us 26 = u26; generalize us 27 = u27; generalize us 28 = u28; generalize us 29 = u29; generalize us 30 = u30; generalize us 31 = u31; generalize us 32 = u32; generalize us 33 = u33; generalize us 34 = u34; generalize us 35 = u35; generalize us 36 = u36; generalize us 37 = u37; generalize us 38 = u38; generalize us 39 = u39; generalize us 40 = u40
          go_wp2_with fail
          go_meet
          obtain ⟨q1, q2, q3, q4, q5⟩ := hS
          rw [if_neg (by decide)] at q5
          exact ⟨q1, q2, q3, q4, q5.imp (fun q => by have h1 := HOK.out.symm.trans q.2; rw [fits10 HX.out, HGS.out] at h1; simp only [Bool.and_eq_true] at h1; exact h1.1)⟩
  case rest =>
  obtain ⟨o4, hf4, hd4, hz4, t4⟩ := hcut
  have HS1 := hid (g1_10 HX.out HNU.out x0)
  have HO := hid o4
  have HF4 := hid hf4
  have HD4 := hid hd4
  have HZ := hid hz4
  have HT := hid t4
  clear o4 hf4 hd4 hz4 t4 HO3 HF3 HZ3 HT3 HD3
  go_wp2_with fail
  rw [show (3 : Int) = ((3 : Nat) : Int) from rfl]
  refine (number_f _ r mb b RES (g1 s x0) 3 (by rw [HS1.out.1]; rfl) (by rw [HS1.out.1]; decide) HSZ.out wc HT.out).mono ?_
  rintro e Wa ⟨x1, rfl, hx1, hoa, hka, hta⟩
  have hx1i : (x1 : Int) ≤ 4294967295 := by omega
  have HOa := hid (HO.out.trans hoa)
  have HFa := hid (hka _ _ _ (by decide) (by decide) HF4.out)
  have HDa := hid (hka _ _ _ (by decide) (by decide) HD4.out)
  have HZa := hid (hka _ _ _ (by decide) (by decide) HZ.out)
  have HTa := hid hta
  have c1 : Wa.cell? ⟨d, 1, none⟩ = some (.int .i64 0) := HDa.out.cell 1
  have f1 := HDa.out.froz 1
  clear hx1 hoa hka hta HO HF4 HD4 HZ HT
  have HD3 : Hid (Blk (Wa.setCell ⟨d, 1, none⟩ (.int .i64 (x1 : Int))) d [.int .i64 (x0 : Int), .int .i64 (x1 : Int), .bool false, .int .i64 0, .int .i64 0] 35) := hid (HDa.out.set 1 _)
  have HF3 : Hid (Blk (Wa.setCell ⟨d, 1, none⟩ (.int .i64 (x1 : Int))) h [Value.int .i64 em, .slice ag n ca, .slice ap m cb] 25) := hid (oth HFa.out (by have := HDL.out; omega))
  have HZ3 : Hid (Blk (Wa.setCell ⟨d, 1, none⟩ (.int .i64 (x1 : Int))) (h + 1) [.int .i64 0, .int .i64 0, .bool false, .int .i64 0, .int .i64 0] 35) := hid (oth HZa.out (by have := HDL.out; omega))
  have HT3 : Hid (TPF (hasG gs x0 = true) r mb b RES (g1 s x0) x1 (Wa.setCell ⟨d, 1, none⟩ (.int .i64 (x1 : Int)))) := hid (HTa.out.set HDa.out (by decide) (by decide) _)
  have HO3 : Hid (Only [r, mb] w (Wa.setCell ⟨d, 1, none⟩ (.int .i64 (x1 : Int)))) := hid (HOa.out.set (p := ⟨d, 1, none⟩) (.inr HDL.out.2) _)
  have a0 : (Wa.setCell ⟨d, 1, none⟩ (.int .i64 (x1 : Int))).cell? ⟨h, 0, none⟩ = some (.int .i64 em) := HF3.out.cell 0
  have a1 : (Wa.setCell ⟨d, 1, none⟩ (.int .i64 (x1 : Int))).cell? ⟨h, 1, none⟩ = some (.slice ag n ca) := HF3.out.cell 1
  have a2 : (Wa.setCell ⟨d, 1, none⟩ (.int .i64 (x1 : Int))).cell? ⟨h, 2, none⟩ = some (.slice ap m cb) := HF3.out.cell 2
  obtain ⟨zL, hzL⟩ : ∃ zL, z = zL := ⟨_, rfl⟩
  have HZLL : Hid ((hasG gs x0 = false ∧ zL = -1) ∨ (hasG gs x0 = true ∧ ∃ k : Nat, zL = k ∧ gs[k]? = some (gotG gs x0))) := hid (by rw [← hzL]; exact HZL.out)
  rw [hzL]
  clear hzL HZL HXN
  go_wp2_with fail
  obtain ⟨W3, hW3⟩ : ∃ W3, Wa.setCell ⟨d, 1, none⟩ (.int .i64 (x1 : Int)) = W3 := ⟨_, rfl⟩
  rw [hW3] at HO3 HF3 HZ3 HT3 HD3 a0 a1 a2 ⊢
  clear hW3 HOa HFa HDa HZa HTa c1 f1 z
  refine (HGLI.out W3 HO3.out x1).mono ?_
  rintro e WD ⟨⟨z, rfl, hz⟩, hbd⟩
  have HZL := hid hz
  have HO3 := hid (HO3.out.trans ((Only.ofBelow hbd).mono (by simp)) : Only [r, mb] w WD)
  have HF3 := hid (HF3.out.below hbd)
  have HZ3 := hid (HZ3.out.below hbd)
  have HT3 := hid (HT3.out.below hbd)
  have HD3 := hid (HD3.out.below hbd)
  have HXN : Hid ((g1 s x0).nx ≠ 15) := hid (by rw [HS1.out.1]; decide)
  clear hz hbd a0 a1 a2
  go_wp2_with fail
  go_cut [] from 48 to 79 (fun wx => Only [r, mb] w wx ∧ Blk wx h [Value.int .i64 em, .slice ag n ca, .slice ap m cb] 25 ∧ Blk wx d [.int .i64 (x0 : Int), .int .i64 (x1 : Int), .bool false, .int .i64 0, .int .i64 0] 35 ∧ Blk wx (h + 1) [.int .i64 0, .int .i64 0, .bool false, .int .i64 0, .int .i64 0] 35 ∧ TAF (hasG gs x0 = true ∧ hasG gs x1 = true) r mb b RES (g1 (g1 s x0) x1) wx)
  case first =>
    have hge := gl_ge HZL.out
    rcases hb1 : decide (0 ≤ z) with _ | _
    · have HB1 := hid hb1
      have HOK : Hid (false = fits (read (g1 s x0) (sz (g1 s x0).nx) x1) x1) := hid (by
        rw [fits11 HS1.out.1 x1, HS1.out.2.1, HGS.out, ← hge, hb1]; rfl)
      have HST0 : Hid (PairSt w r mb b RES (hasG gs x0 = true) (g1 s x0) x1 false h d [Value.int .i64 em, .slice ag n ca, .slice ap m cb] [.int .i64 (x0 : Int), .int .i64 (x1 : Int), .bool false, .int .i64 0, .int .i64 0] 0 WD.drew) := hid ⟨HO3.out.drew, HF3.out, HD3.out, HZ3.out, by rw [if_pos rfl]; exact ⟨HT3.out.below (Below.refl _ _).drew, fun _ => HOK.out⟩⟩
      clear hge hb1
      refine effects (ci := fun i => ([31] : List Nat).getD i 0) (val := fun i => ([some (.pointer (some ⟨r, 0, none⟩)), some (.int .i64 z), some (.bool false), some (.bool false), some (undef), some (undef), some (undef), some (undef), some (undef), some (undef), some (undef), some (undef), some (undef), some (undef), some (undef), some (undef), some (undef), some (undef), some (undef), some (undef), some (undef), some (undef), some (undef), some (undef), some (undef), some (undef), some (undef), some (undef), some (undef), some (undef), some (.bool false), none] : List (Option Value)).getD i none) (fun j X _ => PairSt w r mb b RES (hasG gs x0 = true) (g1 s x0) x1 false h d [.int .i64 em, .slice ag n ca, .slice ap m cb] [.int .i64 (x0 : Int), .int .i64 (x1 : Int), .bool false, .int .i64 0, .int .i64 0] j X) undef
        (by kernel_rfl) (by kernel_rfl) (by kernel_rfl) (show 0 < 1 by decide) HST0.out (by kernel_rfl) (by kernel_rfl) ?hcall ?hp ⟨_, _, rfl, rfl⟩ [48, 49, 50, 51, 52, 53, 54, 55, 56, 57, 58, 59, 60, 61, 62, 63, 64, 65, 66, 67, 68, 69, 70, 71, 72, 73, 74, 75, 76, 77, 78, 79] (by kernel_rfl) ?he
      case hcall =>
        intro j hj
        obtain rfl : j = 0 := by omega
        refine ⟨_, rfl, fun h0 => absurd h0 (by decide), fun a X v hSt hr hh _ _ K hK => ?_⟩
        refine wpOp_one rfl rfl (wp_enter (run_call37 rfl ((hh 0 _ (by kernel_rfl) rfl).only rfl rfl) ((hh 30 _ (by kernel_rfl) rfl).only rfl rfl)) ((pairSt_must hSt HXN.out HSZ.out).mono ?_))
        rintro e X' ⟨rfl, hS'⟩
        exact ⟨_, rfl, hK _ _ hS'⟩
      case hp =>
        intro i o ho
        rcases i with _ | _ | _ | _ | _ | _ | _ | _ | _ | _ | _ | _ | _ | _ | _ | _ | _ | _ | _ | _ | _ | _ | _ | _ | _ | _ | _ | _ | _ | _ | _ | _ | i
        · cases ho
          refine .inr ⟨_, rfl, fun j v' a X hj hSt hr hh => ?_⟩
          obtain ⟨hO, hH, hD, hZ, _⟩ := hSt
          exact does_run rfl rfl (run_move rfl (eval_tmp (hr.2.2 0 (by kernel_rfl))))
        · cases ho
          refine .inr ⟨_, rfl, fun j v' a X hj hSt hr hh => ?_⟩
          obtain ⟨hO, hH, hD, hZ, _⟩ := hSt
          exact does_run rfl rfl (run_move rfl (eval_tmp (hr.2.2 8 (by kernel_rfl))))
        · cases ho
          refine .inr ⟨_, rfl, fun j v' a X hj hSt hr hh => ?_⟩
          obtain ⟨hO, hH, hD, hZ, _⟩ := hSt
          exact does_run rfl rfl (run_geq rfl ((hh 1 _ (by kernel_rfl) rfl).only rfl rfl) rfl HB1.out)
        · cases ho
          refine .inr ⟨_, rfl, fun j v' a X hj hSt hr hh => ?_⟩
          obtain ⟨hO, hH, hD, hZ, _⟩ := hSt
          exact does_run rfl rfl (run_move rfl ((hh 2 _ (by kernel_rfl) rfl).only rfl rfl))
        · cases ho
          refine .inr ⟨_, rfl, fun j v' a X hj hSt hr hh => ?_⟩
          obtain ⟨hO, hH, hD, hZ, _⟩ := hSt
          exact does_off rfl rfl rfl (hh 3 _ (by kernel_rfl) rfl) rfl
        · cases ho
          refine .inr ⟨_, rfl, fun j v' a X hj hSt hr hh => ?_⟩
          obtain ⟨hO, hH, hD, hZ, _⟩ := hSt
          exact does_off rfl rfl rfl (hh 3 _ (by kernel_rfl) rfl) rfl
        · cases ho
          refine .inr ⟨_, rfl, fun j v' a X hj hSt hr hh => ?_⟩
          obtain ⟨hO, hH, hD, hZ, _⟩ := hSt
          exact does_off rfl rfl rfl (hh 3 _ (by kernel_rfl) rfl) rfl
        · cases ho
          refine .inr ⟨_, rfl, fun j v' a X hj hSt hr hh => ?_⟩
          obtain ⟨hO, hH, hD, hZ, _⟩ := hSt
          exact does_undef rfl rfl rfl (hh 6 _ (by kernel_rfl) rfl)
        · cases ho
          refine .inr ⟨_, rfl, fun j v' a X hj hSt hr hh => ?_⟩
          obtain ⟨hO, hH, hD, hZ, _⟩ := hSt
          exact does_undef rfl rfl rfl (hh 6 _ (by kernel_rfl) rfl)
        · cases ho
          refine .inr ⟨_, rfl, fun j v' a X hj hSt hr hh => ?_⟩
          obtain ⟨hO, hH, hD, hZ, _⟩ := hSt
          exact does_undef rfl rfl rfl (hh 6 _ (by kernel_rfl) rfl)
        · cases ho
          refine .inr ⟨_, rfl, fun j v' a X hj hSt hr hh => ?_⟩
          obtain ⟨hO, hH, hD, hZ, _⟩ := hSt
          exact does_undef rfl rfl rfl (hh 6 _ (by kernel_rfl) rfl)
        · cases ho
          refine .inr ⟨_, rfl, fun j v' a X hj hSt hr hh => ?_⟩
          obtain ⟨hO, hH, hD, hZ, _⟩ := hSt
          exact does_undef rfl rfl rfl (hh 6 _ (by kernel_rfl) rfl)
        · cases ho
          refine .inr ⟨_, rfl, fun j v' a X hj hSt hr hh => ?_⟩
          obtain ⟨hO, hH, hD, hZ, _⟩ := hSt
          exact does_undef rfl rfl rfl (hh 6 _ (by kernel_rfl) rfl)
        · cases ho
          refine .inr ⟨_, rfl, fun j v' a X hj hSt hr hh => ?_⟩
          obtain ⟨hO, hH, hD, hZ, _⟩ := hSt
          exact does_undef rfl rfl rfl (hh 6 _ (by kernel_rfl) rfl)
        · cases ho
          refine .inr ⟨_, rfl, fun j v' a X hj hSt hr hh => ?_⟩
          obtain ⟨hO, hH, hD, hZ, _⟩ := hSt
          exact does_undef rfl rfl rfl (hh 6 _ (by kernel_rfl) rfl)
        · cases ho
          refine .inr ⟨_, rfl, fun j v' a X hj hSt hr hh => ?_⟩
          obtain ⟨hO, hH, hD, hZ, _⟩ := hSt
          exact does_undef rfl rfl rfl (hh 6 _ (by kernel_rfl) rfl)
        · cases ho
          refine .inr ⟨_, rfl, fun j v' a X hj hSt hr hh => ?_⟩
          obtain ⟨hO, hH, hD, hZ, _⟩ := hSt
          exact does_undef rfl rfl rfl (hh 6 _ (by kernel_rfl) rfl)
        · cases ho
          refine .inr ⟨_, rfl, fun j v' a X hj hSt hr hh => ?_⟩
          obtain ⟨hO, hH, hD, hZ, _⟩ := hSt
          exact does_off rfl rfl rfl (hh 3 _ (by kernel_rfl) rfl) rfl
        · cases ho
          refine .inr ⟨_, rfl, fun j v' a X hj hSt hr hh => ?_⟩
          obtain ⟨hO, hH, hD, hZ, _⟩ := hSt
          exact does_off rfl rfl rfl (hh 3 _ (by kernel_rfl) rfl) rfl
        · cases ho
          refine .inr ⟨_, rfl, fun j v' a X hj hSt hr hh => ?_⟩
          obtain ⟨hO, hH, hD, hZ, _⟩ := hSt
          exact does_undef rfl rfl rfl (hh 18 _ (by kernel_rfl) rfl)
        · cases ho
          refine .inr ⟨_, rfl, fun j v' a X hj hSt hr hh => ?_⟩
          obtain ⟨hO, hH, hD, hZ, _⟩ := hSt
          exact does_undef rfl rfl rfl (hh 18 _ (by kernel_rfl) rfl)
        · cases ho
          refine .inr ⟨_, rfl, fun j v' a X hj hSt hr hh => ?_⟩
          obtain ⟨hO, hH, hD, hZ, _⟩ := hSt
          exact does_undef rfl rfl rfl (hh 18 _ (by kernel_rfl) rfl)
        · cases ho
          refine .inr ⟨_, rfl, fun j v' a X hj hSt hr hh => ?_⟩
          obtain ⟨hO, hH, hD, hZ, _⟩ := hSt
          exact does_undef rfl rfl rfl (hh 18 _ (by kernel_rfl) rfl)
        · cases ho
          refine .inr ⟨_, rfl, fun j v' a X hj hSt hr hh => ?_⟩
          obtain ⟨hO, hH, hD, hZ, _⟩ := hSt
          exact does_undef rfl rfl rfl (hh 18 _ (by kernel_rfl) rfl)
        · cases ho
          refine .inr ⟨_, rfl, fun j v' a X hj hSt hr hh => ?_⟩
          obtain ⟨hO, hH, hD, hZ, _⟩ := hSt
          exact does_undef rfl rfl rfl (hh 18 _ (by kernel_rfl) rfl)
        · cases ho
          refine .inr ⟨_, rfl, fun j v' a X hj hSt hr hh => ?_⟩
          obtain ⟨hO, hH, hD, hZ, _⟩ := hSt
          exact does_undef rfl rfl rfl (hh 18 _ (by kernel_rfl) rfl)
        · cases ho
          refine .inr ⟨_, rfl, fun j v' a X hj hSt hr hh => ?_⟩
          obtain ⟨hO, hH, hD, hZ, _⟩ := hSt
          exact does_undef rfl rfl rfl (hh 18 _ (by kernel_rfl) rfl)
        · cases ho
          refine .inr ⟨_, rfl, fun j v' a X hj hSt hr hh => ?_⟩
          obtain ⟨hO, hH, hD, hZ, _⟩ := hSt
          exact does_undef rfl rfl rfl (hh 18 _ (by kernel_rfl) rfl)
        · cases ho
          refine .inr ⟨_, rfl, fun j v' a X hj hSt hr hh => ?_⟩
          obtain ⟨hO, hH, hD, hZ, _⟩ := hSt
          exact does_undef rfl rfl rfl (hh 18 _ (by kernel_rfl) rfl)
        · cases ho
          refine .inr ⟨_, rfl, fun j v' a X hj hSt hr hh => ?_⟩
          obtain ⟨hO, hH, hD, hZ, _⟩ := hSt
          exact does_off rfl rfl rfl (hh 3 _ (by kernel_rfl) rfl) rfl
        · cases ho
          refine .inr ⟨_, rfl, fun j v' a X hj hSt hr hh => ?_⟩
          obtain ⟨hO, hH, hD, hZ, _⟩ := hSt
          exact does_run rfl rfl (run_pick rfl ((hh 3 _ (by kernel_rfl) rfl).only rfl rfl) ((hh 29 _ (by kernel_rfl) rfl).only rfl rfl) rfl)
        · exact .inl ⟨0, by decide, rfl⟩
        · cases ho
      case he =>
        intro us wx _ hS
        simp only [List.foldl_cons, List.foldl_nil, List.setIfInBounds_toArray, List.set_cons_succ, List.set_cons_zero]
        generalize us 48 = u48; generalize us 49 = u49; generalize us 50 = u50; generalize us 51 = u51; generalize us 52 = u52; generalize us 53 = u53; generalize us 54 = u54; generalize us 55 = u55; generalize us 56 = u56; generalize us 57 = u57; generalize us 58 = u58; generalize us 59 = u59; generalize us 60 = u60; generalize us 61 = u61; generalize us 62 = u62; generalize us 63 = u63; generalize us 64 = u64; generalize us 65 = u65; generalize us 66 = u66; generalize us 67 = u67; generalize us 68 = u68; generalize us 69 = u69; generalize us 70 = u70; generalize us 71 = u71; generalize us 72 = u72; generalize us 73 = u73; generalize us 74 = u74; generalize us 75 = u75; generalize us 76 = u76; generalize us 77 = u77; generalize us 78 = u78; generalize us 79 = u79
        go_wp2_with fail
        go_meet
        obtain ⟨q1, q2, q3, q4, q5⟩ := hS
        rw [if_neg (by decide)] at q5
        exact ⟨q1, q2, q3, q4, q5.imp (fun q => ⟨q.1, by have h1 := HOK.out.symm.trans q.2; rw [fits11 HS1.out.1, HS1.out.2.1, HGS.out] at h1; simp only [Bool.and_eq_true] at h1; exact h1.1⟩)⟩
    · have HB1 := hid hb1
      have hhas : hasG gs (x1 : Int) = true := by rw [← hge, hb1]
      rcases hb2 : ((m : Int) == 0) with _ | _
      · have HB2 := hid hb2
        obtain ⟨k, hk⟩ : ∃ k, m = k + 1 := ⟨m - 1, by
          have : ¬ (m : Int) = 0 := by simpa using hb2
          omega⟩
        subst hk
        obtain ⟨l, hl⟩ := some_at (xs := ps) (i := k) (by rw [HM.out]; exact Nat.lt_succ_self k)
        obtain ⟨bq, off, rfl, _, hga⟩ := Sl.pair' (HSP.out w (Only.refl _ _)) HM.out hl
        have hah : (aheadP s.ps) = l := by
          rw [HPS.out]
          unfold aheadP
          rw [List.getLast?_eq_getElem?, HM.out, Nat.add_sub_cancel, hl]; rfl
        have HKL : Hid (k ≤ 1000000) := hid (by omega)
        obtain ⟨l0, l1, l2, l3, l4⟩ := l
        have HLC : Hid (∀ X, Only [r, mb] w X → X.cell? ⟨bq, off + k * 5, none⟩ = some (.int .i64 l0) ∧ X.cell? ⟨bq, off + k * 5 + 1, none⟩ = some (.int .i64 l1)) := hid fun X hX => by
          obtain ⟨b2, off2, e, _, hga2⟩ := Sl.pair' (HSP.out X hX) HM.out hl
          cases e
          exact ⟨hga2.c0, hga2.c1⟩
        rcases hb3 : decide (l0 < (x0 : Int)) with _ | _
        · have HB3 := hid hb3
          obtain ⟨b4, hb4⟩ : ∃ b4, decide (l1 < (x1 : Int)) = b4 := ⟨_, rfl⟩
          have HB4 := hid hb4
          have HOK : Hid (b4 = fits (read (g1 s x0) (sz (g1 s x0).nx) x1) x1) := hid (by
            rw [fits11 HS1.out.1 x1, HS1.out.2.1, HGS.out, HS1.out.2.2.1, hah, hhas, HS1.out.2.2.2.2.2.2, hb3, ← hb4]; rfl)
          have HST0 : Hid (PairSt w r mb b RES (hasG gs x0 = true) (g1 s x0) x1 b4 h d [Value.int .i64 em, .slice ag n ca, .slice (some ⟨bq, off, none⟩) (k + 1) cb] [.int .i64 (x0 : Int), .int .i64 (x1 : Int), .bool false, .int .i64 0, .int .i64 0] 0 WD.drew) := hid ⟨HO3.out.drew, HF3.out, HD3.out, HZ3.out, by rw [if_pos rfl]; exact ⟨HT3.out.below (Below.refl _ _).drew, fun _ => HOK.out⟩⟩
          clear hge hb1 hb2 hb3 hb4 hl hga hah hhas
          refine effects (ci := fun i => ([31] : List Nat).getD i 0) (val := fun i => ([some (.pointer (some ⟨r, 0, none⟩)), some (.int .i64 z), some (.bool true), some (.bool true), some (.int .i64 ((k + 1 : Nat) : Int)), some (.bool false), some (.bool false), some (.pointer (some ⟨d, 0, none⟩)), some (.int .i64 (x0 : Int)), some (.pointer (some ⟨h, 2, none⟩)), some (.slice (some ⟨bq, off, none⟩) (k + 1) cb), some (.int .i64 ((k + 1 : Nat) : Int)), some (.int .i64 (k : Int)), some (.pointer (some ⟨bq, off + k * 5, none⟩)), some (.pointer (some ⟨bq, off + k * 5, none⟩)), some (.int .i64 l0), some (.bool false), some (.bool false), some (.bool false), some (.pointer (some ⟨d, 1, none⟩)), some (.int .i64 (x1 : Int)), some (.pointer (some ⟨h, 2, none⟩)), some (.slice (some ⟨bq, off, none⟩) (k + 1) cb), some (.int .i64 ((k + 1 : Nat) : Int)), some (.int .i64 (k : Int)), some (.pointer (some ⟨bq, off + k * 5, none⟩)), some (.pointer (some ⟨bq, off + k * 5 + 1, none⟩)), some (.int .i64 l1), some (.bool b4), some (.bool b4), some (.bool b4), none] : List (Option Value)).getD i none) (fun j X _ => PairSt w r mb b RES (hasG gs x0 = true) (g1 s x0) x1 b4 h d [.int .i64 em, .slice ag n ca, .slice (some ⟨bq, off, none⟩) (k + 1) cb] [.int .i64 (x0 : Int), .int .i64 (x1 : Int), .bool false, .int .i64 0, .int .i64 0] j X) undef
            (by kernel_rfl) (by kernel_rfl) (by kernel_rfl) (show 0 < 1 by decide) HST0.out (by kernel_rfl) (by kernel_rfl) ?hcall ?hp ⟨_, _, rfl, rfl⟩ [48, 49, 50, 51, 52, 53, 54, 55, 56, 57, 58, 59, 60, 61, 62, 63, 64, 65, 66, 67, 68, 69, 70, 71, 72, 73, 74, 75, 76, 77, 78, 79] (by kernel_rfl) ?he
          case hcall =>
            intro j hj
            obtain rfl : j = 0 := by omega
            refine ⟨_, rfl, fun h0 => absurd h0 (by decide), fun a X v hSt hr hh _ _ K hK => ?_⟩
            refine wpOp_one rfl rfl (wp_enter (run_call37 rfl ((hh 0 _ (by kernel_rfl) rfl).only rfl rfl) ((hh 30 _ (by kernel_rfl) rfl).only rfl rfl)) ((pairSt_must hSt HXN.out HSZ.out).mono ?_))
            rintro e X' ⟨rfl, hS'⟩
            exact ⟨_, rfl, hK _ _ hS'⟩
          case hp =>
            intro i o ho
            rcases i with _ | _ | _ | _ | _ | _ | _ | _ | _ | _ | _ | _ | _ | _ | _ | _ | _ | _ | _ | _ | _ | _ | _ | _ | _ | _ | _ | _ | _ | _ | _ | _ | i
            · cases ho
              refine .inr ⟨_, rfl, fun j v' a X hj hSt hr hh => ?_⟩
              obtain ⟨hO, hH, hD, hZ, _⟩ := hSt
              exact does_run rfl rfl (run_move rfl (eval_tmp (hr.2.2 0 (by kernel_rfl))))
            · cases ho
              refine .inr ⟨_, rfl, fun j v' a X hj hSt hr hh => ?_⟩
              obtain ⟨hO, hH, hD, hZ, _⟩ := hSt
              exact does_run rfl rfl (run_move rfl (eval_tmp (hr.2.2 8 (by kernel_rfl))))
            · cases ho
              refine .inr ⟨_, rfl, fun j v' a X hj hSt hr hh => ?_⟩
              obtain ⟨hO, hH, hD, hZ, _⟩ := hSt
              exact does_run rfl rfl (run_geq rfl ((hh 1 _ (by kernel_rfl) rfl).only rfl rfl) rfl HB1.out)
            · cases ho
              refine .inr ⟨_, rfl, fun j v' a X hj hSt hr hh => ?_⟩
              obtain ⟨hO, hH, hD, hZ, _⟩ := hSt
              exact does_run rfl rfl (run_move rfl ((hh 2 _ (by kernel_rfl) rfl).only rfl rfl))
            · cases ho
              refine .inr ⟨_, rfl, fun j v' a X hj hSt hr hh => ?_⟩
              obtain ⟨hO, hH, hD, hZ, _⟩ := hSt
              exact does_on rfl rfl rfl (hh 3 _ (by kernel_rfl) rfl) (run_move rfl (eval_tmp (hr.2.2 5 (by kernel_rfl))))
            · cases ho
              refine .inr ⟨_, rfl, fun j v' a X hj hSt hr hh => ?_⟩
              obtain ⟨hO, hH, hD, hZ, _⟩ := hSt
              exact does_on rfl rfl rfl (hh 3 _ (by kernel_rfl) rfl) (run_eql rfl ((hh 4 _ (by kernel_rfl) rfl).only rfl rfl) rfl HB2.out)
            · cases ho
              refine .inr ⟨_, rfl, fun j v' a X hj hSt hr hh => ?_⟩
              obtain ⟨hO, hH, hD, hZ, _⟩ := hSt
              exact does_on rfl rfl rfl (hh 3 _ (by kernel_rfl) rfl) (run_move rfl ((hh 5 _ (by kernel_rfl) rfl).only rfl rfl))
            · cases ho
              refine .inr ⟨_, rfl, fun j v' a X hj hSt hr hh => ?_⟩
              obtain ⟨hO, hH, hD, hZ, _⟩ := hSt
              exact does_on rfl rfl rfl (hh 6 _ (by kernel_rfl) rfl) (run_fa35_0 rfl (eval_tmp (hr.2.2 6 (by kernel_rfl))))
            · cases ho
              refine .inr ⟨_, rfl, fun j v' a X hj hSt hr hh => ?_⟩
              obtain ⟨hO, hH, hD, hZ, _⟩ := hSt
              exact does_on rfl rfl rfl (hh 6 _ (by kernel_rfl) rfl) (run_load3 rfl ((hh 7 _ (by kernel_rfl) rfl).only rfl rfl) (hD.cell 0))
            · cases ho
              refine .inr ⟨_, rfl, fun j v' a X hj hSt hr hh => ?_⟩
              obtain ⟨hO, hH, hD, hZ, _⟩ := hSt
              exact does_on rfl rfl rfl (hh 6 _ (by kernel_rfl) rfl) (run_fa25_2 rfl (eval_tmp (hr.2.2 3 (by kernel_rfl))))
            · cases ho
              refine .inr ⟨_, rfl, fun j v' a X hj hSt hr hh => ?_⟩
              obtain ⟨hO, hH, hD, hZ, _⟩ := hSt
              exact does_on rfl rfl rfl (hh 6 _ (by kernel_rfl) rfl) (run_load23 rfl ((hh 9 _ (by kernel_rfl) rfl).only rfl rfl) (hH.cell 2))
            · cases ho
              refine .inr ⟨_, rfl, fun j v' a X hj hSt hr hh => ?_⟩
              obtain ⟨hO, hH, hD, hZ, _⟩ := hSt
              exact does_on rfl rfl rfl (hh 6 _ (by kernel_rfl) rfl) (run_move rfl (eval_tmp (hr.2.2 5 (by kernel_rfl))))
            · cases ho
              refine .inr ⟨_, rfl, fun j v' a X hj hSt hr hh => ?_⟩
              obtain ⟨hO, hH, hD, hZ, _⟩ := hSt
              exact does_on rfl rfl rfl (hh 6 _ (by kernel_rfl) rfl) (run_sub1 rfl ((hh 11 _ (by kernel_rfl) rfl).only rfl rfl) HKL.out)
            · cases ho
              refine .inr ⟨_, rfl, fun j v' a X hj hSt hr hh => ?_⟩
              obtain ⟨hO, hH, hD, hZ, _⟩ := hSt
              exact does_on rfl rfl rfl (hh 6 _ (by kernel_rfl) rfl) (run_ix23 rfl ((hh 10 _ (by kernel_rfl) rfl).only rfl rfl) ((hh 12 _ (by kernel_rfl) rfl).only rfl rfl) (Nat.lt_succ_self k))
            · cases ho
              refine .inr ⟨_, rfl, fun j v' a X hj hSt hr hh => ?_⟩
              obtain ⟨hO, hH, hD, hZ, _⟩ := hSt
              exact does_on rfl rfl rfl (hh 6 _ (by kernel_rfl) rfl) (run_at35_0 rfl ((hh 13 _ (by kernel_rfl) rfl).only rfl rfl))
            · cases ho
              refine .inr ⟨_, rfl, fun j v' a X hj hSt hr hh => ?_⟩
              obtain ⟨hO, hH, hD, hZ, _⟩ := hSt
              exact does_on rfl rfl rfl (hh 6 _ (by kernel_rfl) rfl) (run_load3 rfl ((hh 14 _ (by kernel_rfl) rfl).only rfl rfl) (HLC.out X hO).1)
            · cases ho
              refine .inr ⟨_, rfl, fun j v' a X hj hSt hr hh => ?_⟩
              obtain ⟨hO, hH, hD, hZ, _⟩ := hSt
              exact does_on rfl rfl rfl (hh 6 _ (by kernel_rfl) rfl) (run_gtr rfl ((hh 8 _ (by kernel_rfl) rfl).only rfl rfl) ((hh 15 _ (by kernel_rfl) rfl).only rfl rfl) HB3.out)
            · cases ho
              refine .inr ⟨_, rfl, fun j v' a X hj hSt hr hh => ?_⟩
              obtain ⟨hO, hH, hD, hZ, _⟩ := hSt
              exact does_on rfl rfl rfl (hh 3 _ (by kernel_rfl) rfl) (run_pick rfl ((hh 6 _ (by kernel_rfl) rfl).only rfl rfl) rfl ((hh 16 _ (by kernel_rfl) rfl).only rfl rfl))
            · cases ho
              refine .inr ⟨_, rfl, fun j v' a X hj hSt hr hh => ?_⟩
              obtain ⟨hO, hH, hD, hZ, _⟩ := hSt
              exact does_on rfl rfl rfl (hh 3 _ (by kernel_rfl) rfl) (run_move rfl ((hh 17 _ (by kernel_rfl) rfl).only rfl rfl))
            · cases ho
              refine .inr ⟨_, rfl, fun j v' a X hj hSt hr hh => ?_⟩
              obtain ⟨hO, hH, hD, hZ, _⟩ := hSt
              exact does_on rfl rfl rfl (hh 18 _ (by kernel_rfl) rfl) (run_fa35_1 rfl (eval_tmp (hr.2.2 6 (by kernel_rfl))))
            · cases ho
              refine .inr ⟨_, rfl, fun j v' a X hj hSt hr hh => ?_⟩
              obtain ⟨hO, hH, hD, hZ, _⟩ := hSt
              exact does_on rfl rfl rfl (hh 18 _ (by kernel_rfl) rfl) (run_load3 rfl ((hh 19 _ (by kernel_rfl) rfl).only rfl rfl) (hD.cell 1))
            · cases ho
              refine .inr ⟨_, rfl, fun j v' a X hj hSt hr hh => ?_⟩
              obtain ⟨hO, hH, hD, hZ, _⟩ := hSt
              exact does_on rfl rfl rfl (hh 18 _ (by kernel_rfl) rfl) (run_fa25_2 rfl (eval_tmp (hr.2.2 3 (by kernel_rfl))))
            · cases ho
              refine .inr ⟨_, rfl, fun j v' a X hj hSt hr hh => ?_⟩
              obtain ⟨hO, hH, hD, hZ, _⟩ := hSt
              exact does_on rfl rfl rfl (hh 18 _ (by kernel_rfl) rfl) (run_load23 rfl ((hh 21 _ (by kernel_rfl) rfl).only rfl rfl) (hH.cell 2))
            · cases ho
              refine .inr ⟨_, rfl, fun j v' a X hj hSt hr hh => ?_⟩
              obtain ⟨hO, hH, hD, hZ, _⟩ := hSt
              exact does_on rfl rfl rfl (hh 18 _ (by kernel_rfl) rfl) (run_move rfl (eval_tmp (hr.2.2 5 (by kernel_rfl))))
            · cases ho
              refine .inr ⟨_, rfl, fun j v' a X hj hSt hr hh => ?_⟩
              obtain ⟨hO, hH, hD, hZ, _⟩ := hSt
              exact does_on rfl rfl rfl (hh 18 _ (by kernel_rfl) rfl) (run_sub1 rfl ((hh 23 _ (by kernel_rfl) rfl).only rfl rfl) HKL.out)
            · cases ho
              refine .inr ⟨_, rfl, fun j v' a X hj hSt hr hh => ?_⟩
              obtain ⟨hO, hH, hD, hZ, _⟩ := hSt
              exact does_on rfl rfl rfl (hh 18 _ (by kernel_rfl) rfl) (run_ix23 rfl ((hh 22 _ (by kernel_rfl) rfl).only rfl rfl) ((hh 24 _ (by kernel_rfl) rfl).only rfl rfl) (Nat.lt_succ_self k))
            · cases ho
              refine .inr ⟨_, rfl, fun j v' a X hj hSt hr hh => ?_⟩
              obtain ⟨hO, hH, hD, hZ, _⟩ := hSt
              exact does_on rfl rfl rfl (hh 18 _ (by kernel_rfl) rfl) (run_at35_1 rfl ((hh 25 _ (by kernel_rfl) rfl).only rfl rfl))
            · cases ho
              refine .inr ⟨_, rfl, fun j v' a X hj hSt hr hh => ?_⟩
              obtain ⟨hO, hH, hD, hZ, _⟩ := hSt
              exact does_on rfl rfl rfl (hh 18 _ (by kernel_rfl) rfl) (run_load3 rfl ((hh 26 _ (by kernel_rfl) rfl).only rfl rfl) (HLC.out X hO).2)
            · cases ho
              refine .inr ⟨_, rfl, fun j v' a X hj hSt hr hh => ?_⟩
              obtain ⟨hO, hH, hD, hZ, _⟩ := hSt
              exact does_on rfl rfl rfl (hh 18 _ (by kernel_rfl) rfl) (run_gtr rfl ((hh 20 _ (by kernel_rfl) rfl).only rfl rfl) ((hh 27 _ (by kernel_rfl) rfl).only rfl rfl) HB4.out)
            · cases ho
              refine .inr ⟨_, rfl, fun j v' a X hj hSt hr hh => ?_⟩
              obtain ⟨hO, hH, hD, hZ, _⟩ := hSt
              exact does_on rfl rfl rfl (hh 3 _ (by kernel_rfl) rfl) (run_pick rfl ((hh 18 _ (by kernel_rfl) rfl).only rfl rfl) rfl ((hh 28 _ (by kernel_rfl) rfl).only rfl rfl))
            · cases ho
              refine .inr ⟨_, rfl, fun j v' a X hj hSt hr hh => ?_⟩
              obtain ⟨hO, hH, hD, hZ, _⟩ := hSt
              exact does_run rfl rfl (run_pick rfl ((hh 3 _ (by kernel_rfl) rfl).only rfl rfl) ((hh 29 _ (by kernel_rfl) rfl).only rfl rfl) rfl)
            · exact .inl ⟨0, by decide, rfl⟩
            · cases ho
          case he =>
            intro us wx _ hS
            simp only [List.foldl_cons, List.foldl_nil, List.setIfInBounds_toArray, List.set_cons_succ, List.set_cons_zero]
            generalize us 48 = u48; generalize us 49 = u49; generalize us 50 = u50; generalize us 51 = u51; generalize us 52 = u52; generalize us 53 = u53; generalize us 54 = u54; generalize us 55 = u55; generalize us 56 = u56; generalize us 57 = u57; generalize us 58 = u58; generalize us 59 = u59; generalize us 60 = u60; generalize us 61 = u61; generalize us 62 = u62; generalize us 63 = u63; generalize us 64 = u64; generalize us 65 = u65; generalize us 66 = u66; generalize us 67 = u67; generalize us 68 = u68; generalize us 69 = u69; generalize us 70 = u70; generalize us 71 = u71; generalize us 72 = u72; generalize us 73 = u73; generalize us 74 = u74; generalize us 75 = u75; generalize us 76 = u76; generalize us 77 = u77; generalize us 78 = u78; generalize us 79 = u79
            go_wp2_with fail
            go_meet
            obtain ⟨q1, q2, q3, q4, q5⟩ := hS
            rw [if_neg (by decide)] at q5
            exact ⟨q1, q2, q3, q4, q5.imp (fun q => ⟨q.1, by have h1 := HOK.out.symm.trans q.2; rw [fits11 HS1.out.1, HS1.out.2.1, HGS.out] at h1; simp only [Bool.and_eq_true] at h1; exact h1.1⟩)⟩
        · have HB3 := hid hb3
          have HOK : Hid (true = fits (read (g1 s x0) (sz (g1 s x0).nx) x1) x1) := hid (by
            rw [fits11 HS1.out.1 x1, HS1.out.2.1, HGS.out, HS1.out.2.2.1, hah, hhas, HS1.out.2.2.2.2.2.2, hb3]; rfl)
          have HST0 : Hid (PairSt w r mb b RES (hasG gs x0 = true) (g1 s x0) x1 true h d [Value.int .i64 em, .slice ag n ca, .slice (some ⟨bq, off, none⟩) (k + 1) cb] [.int .i64 (x0 : Int), .int .i64 (x1 : Int), .bool false, .int .i64 0, .int .i64 0] 0 WD.drew) := hid ⟨HO3.out.drew, HF3.out, HD3.out, HZ3.out, by rw [if_pos rfl]; exact ⟨HT3.out.below (Below.refl _ _).drew, fun _ => HOK.out⟩⟩
          clear hge hb1 hb2 hb3 hl hga hah hhas
          refine effects (ci := fun i => ([31] : List Nat).getD i 0) (val := fun i => ([some (.pointer (some ⟨r, 0, none⟩)), some (.int .i64 z), some (.bool true), some (.bool true), some (.int .i64 ((k + 1 : Nat) : Int)), some (.bool false), some (.bool false), some (.pointer (some ⟨d, 0, none⟩)), some (.int .i64 (x0 : Int)), some (.pointer (some ⟨h, 2, none⟩)), some (.slice (some ⟨bq, off, none⟩) (k + 1) cb), some (.int .i64 ((k + 1 : Nat) : Int)), some (.int .i64 (k : Int)), some (.pointer (some ⟨bq, off + k * 5, none⟩)), some (.pointer (some ⟨bq, off + k * 5, none⟩)), some (.int .i64 l0), some (.bool true), some (.bool true), some (.bool true), some (undef), some (undef), some (undef), some (undef), some (undef), some (undef), some (undef), some (undef), some (undef), some (undef), some (.bool true), some (.bool true), none] : List (Option Value)).getD i none) (fun j X _ => PairSt w r mb b RES (hasG gs x0 = true) (g1 s x0) x1 true h d [.int .i64 em, .slice ag n ca, .slice (some ⟨bq, off, none⟩) (k + 1) cb] [.int .i64 (x0 : Int), .int .i64 (x1 : Int), .bool false, .int .i64 0, .int .i64 0] j X) undef
            (by kernel_rfl) (by kernel_rfl) (by kernel_rfl) (show 0 < 1 by decide) HST0.out (by kernel_rfl) (by kernel_rfl) ?hcall ?hp ⟨_, _, rfl, rfl⟩ [48, 49, 50, 51, 52, 53, 54, 55, 56, 57, 58, 59, 60, 61, 62, 63, 64, 65, 66, 67, 68, 69, 70, 71, 72, 73, 74, 75, 76, 77, 78, 79] (by kernel_rfl) ?he
          case hcall =>
            intro j hj
            obtain rfl : j = 0 := by omega
            refine ⟨_, rfl, fun h0 => absurd h0 (by decide), fun a X v hSt hr hh _ _ K hK => ?_⟩
            refine wpOp_one rfl rfl (wp_enter (run_call37 rfl ((hh 0 _ (by kernel_rfl) rfl).only rfl rfl) ((hh 30 _ (by kernel_rfl) rfl).only rfl rfl)) ((pairSt_must hSt HXN.out HSZ.out).mono ?_))
            rintro e X' ⟨rfl, hS'⟩
            exact ⟨_, rfl, hK _ _ hS'⟩
          case hp =>
            intro i o ho
            rcases i with _ | _ | _ | _ | _ | _ | _ | _ | _ | _ | _ | _ | _ | _ | _ | _ | _ | _ | _ | _ | _ | _ | _ | _ | _ | _ | _ | _ | _ | _ | _ | _ | i
            · cases ho
              refine .inr ⟨_, rfl, fun j v' a X hj hSt hr hh => ?_⟩
              obtain ⟨hO, hH, hD, hZ, _⟩ := hSt
              exact does_run rfl rfl (run_move rfl (eval_tmp (hr.2.2 0 (by kernel_rfl))))
            · cases ho
              refine .inr ⟨_, rfl, fun j v' a X hj hSt hr hh => ?_⟩
              obtain ⟨hO, hH, hD, hZ, _⟩ := hSt
              exact does_run rfl rfl (run_move rfl (eval_tmp (hr.2.2 8 (by kernel_rfl))))
            · cases ho
              refine .inr ⟨_, rfl, fun j v' a X hj hSt hr hh => ?_⟩
              obtain ⟨hO, hH, hD, hZ, _⟩ := hSt
              exact does_run rfl rfl (run_geq rfl ((hh 1 _ (by kernel_rfl) rfl).only rfl rfl) rfl HB1.out)
            · cases ho
              refine .inr ⟨_, rfl, fun j v' a X hj hSt hr hh => ?_⟩
              obtain ⟨hO, hH, hD, hZ, _⟩ := hSt
              exact does_run rfl rfl (run_move rfl ((hh 2 _ (by kernel_rfl) rfl).only rfl rfl))
            · cases ho
              refine .inr ⟨_, rfl, fun j v' a X hj hSt hr hh => ?_⟩
              obtain ⟨hO, hH, hD, hZ, _⟩ := hSt
              exact does_on rfl rfl rfl (hh 3 _ (by kernel_rfl) rfl) (run_move rfl (eval_tmp (hr.2.2 5 (by kernel_rfl))))
            · cases ho
              refine .inr ⟨_, rfl, fun j v' a X hj hSt hr hh => ?_⟩
              obtain ⟨hO, hH, hD, hZ, _⟩ := hSt
              exact does_on rfl rfl rfl (hh 3 _ (by kernel_rfl) rfl) (run_eql rfl ((hh 4 _ (by kernel_rfl) rfl).only rfl rfl) rfl HB2.out)
            · cases ho
              refine .inr ⟨_, rfl, fun j v' a X hj hSt hr hh => ?_⟩
              obtain ⟨hO, hH, hD, hZ, _⟩ := hSt
              exact does_on rfl rfl rfl (hh 3 _ (by kernel_rfl) rfl) (run_move rfl ((hh 5 _ (by kernel_rfl) rfl).only rfl rfl))
            · cases ho
              refine .inr ⟨_, rfl, fun j v' a X hj hSt hr hh => ?_⟩
              obtain ⟨hO, hH, hD, hZ, _⟩ := hSt
              exact does_on rfl rfl rfl (hh 6 _ (by kernel_rfl) rfl) (run_fa35_0 rfl (eval_tmp (hr.2.2 6 (by kernel_rfl))))
            · cases ho
              refine .inr ⟨_, rfl, fun j v' a X hj hSt hr hh => ?_⟩
              obtain ⟨hO, hH, hD, hZ, _⟩ := hSt
              exact does_on rfl rfl rfl (hh 6 _ (by kernel_rfl) rfl) (run_load3 rfl ((hh 7 _ (by kernel_rfl) rfl).only rfl rfl) (hD.cell 0))
            · cases ho
              refine .inr ⟨_, rfl, fun j v' a X hj hSt hr hh => ?_⟩
              obtain ⟨hO, hH, hD, hZ, _⟩ := hSt
              exact does_on rfl rfl rfl (hh 6 _ (by kernel_rfl) rfl) (run_fa25_2 rfl (eval_tmp (hr.2.2 3 (by kernel_rfl))))
            · cases ho
              refine .inr ⟨_, rfl, fun j v' a X hj hSt hr hh => ?_⟩
              obtain ⟨hO, hH, hD, hZ, _⟩ := hSt
              exact does_on rfl rfl rfl (hh 6 _ (by kernel_rfl) rfl) (run_load23 rfl ((hh 9 _ (by kernel_rfl) rfl).only rfl rfl) (hH.cell 2))
            · cases ho
              refine .inr ⟨_, rfl, fun j v' a X hj hSt hr hh => ?_⟩
              obtain ⟨hO, hH, hD, hZ, _⟩ := hSt
              exact does_on rfl rfl rfl (hh 6 _ (by kernel_rfl) rfl) (run_move rfl (eval_tmp (hr.2.2 5 (by kernel_rfl))))
            · cases ho
              refine .inr ⟨_, rfl, fun j v' a X hj hSt hr hh => ?_⟩
              obtain ⟨hO, hH, hD, hZ, _⟩ := hSt
              exact does_on rfl rfl rfl (hh 6 _ (by kernel_rfl) rfl) (run_sub1 rfl ((hh 11 _ (by kernel_rfl) rfl).only rfl rfl) HKL.out)
            · cases ho
              refine .inr ⟨_, rfl, fun j v' a X hj hSt hr hh => ?_⟩
              obtain ⟨hO, hH, hD, hZ, _⟩ := hSt
              exact does_on rfl rfl rfl (hh 6 _ (by kernel_rfl) rfl) (run_ix23 rfl ((hh 10 _ (by kernel_rfl) rfl).only rfl rfl) ((hh 12 _ (by kernel_rfl) rfl).only rfl rfl) (Nat.lt_succ_self k))
            · cases ho
              refine .inr ⟨_, rfl, fun j v' a X hj hSt hr hh => ?_⟩
              obtain ⟨hO, hH, hD, hZ, _⟩ := hSt
              exact does_on rfl rfl rfl (hh 6 _ (by kernel_rfl) rfl) (run_at35_0 rfl ((hh 13 _ (by kernel_rfl) rfl).only rfl rfl))
            · cases ho
              refine .inr ⟨_, rfl, fun j v' a X hj hSt hr hh => ?_⟩
              obtain ⟨hO, hH, hD, hZ, _⟩ := hSt
              exact does_on rfl rfl rfl (hh 6 _ (by kernel_rfl) rfl) (run_load3 rfl ((hh 14 _ (by kernel_rfl) rfl).only rfl rfl) (HLC.out X hO).1)
            · cases ho
              refine .inr ⟨_, rfl, fun j v' a X hj hSt hr hh => ?_⟩
              obtain ⟨hO, hH, hD, hZ, _⟩ := hSt
              exact does_on rfl rfl rfl (hh 6 _ (by kernel_rfl) rfl) (run_gtr rfl ((hh 8 _ (by kernel_rfl) rfl).only rfl rfl) ((hh 15 _ (by kernel_rfl) rfl).only rfl rfl) HB3.out)
            · cases ho
              refine .inr ⟨_, rfl, fun j v' a X hj hSt hr hh => ?_⟩
              obtain ⟨hO, hH, hD, hZ, _⟩ := hSt
              exact does_on rfl rfl rfl (hh 3 _ (by kernel_rfl) rfl) (run_pick rfl ((hh 6 _ (by kernel_rfl) rfl).only rfl rfl) rfl ((hh 16 _ (by kernel_rfl) rfl).only rfl rfl))
            · cases ho
              refine .inr ⟨_, rfl, fun j v' a X hj hSt hr hh => ?_⟩
              obtain ⟨hO, hH, hD, hZ, _⟩ := hSt
              exact does_on rfl rfl rfl (hh 3 _ (by kernel_rfl) rfl) (run_move rfl ((hh 17 _ (by kernel_rfl) rfl).only rfl rfl))
            · cases ho
              refine .inr ⟨_, rfl, fun j v' a X hj hSt hr hh => ?_⟩
              obtain ⟨hO, hH, hD, hZ, _⟩ := hSt
              exact does_off rfl rfl rfl (hh 18 _ (by kernel_rfl) rfl) rfl
            · cases ho
              refine .inr ⟨_, rfl, fun j v' a X hj hSt hr hh => ?_⟩
              obtain ⟨hO, hH, hD, hZ, _⟩ := hSt
              exact does_off rfl rfl rfl (hh 18 _ (by kernel_rfl) rfl) rfl
            · cases ho
              refine .inr ⟨_, rfl, fun j v' a X hj hSt hr hh => ?_⟩
              obtain ⟨hO, hH, hD, hZ, _⟩ := hSt
              exact does_off rfl rfl rfl (hh 18 _ (by kernel_rfl) rfl) rfl
            · cases ho
              refine .inr ⟨_, rfl, fun j v' a X hj hSt hr hh => ?_⟩
              obtain ⟨hO, hH, hD, hZ, _⟩ := hSt
              exact does_off rfl rfl rfl (hh 18 _ (by kernel_rfl) rfl) rfl
            · cases ho
              refine .inr ⟨_, rfl, fun j v' a X hj hSt hr hh => ?_⟩
              obtain ⟨hO, hH, hD, hZ, _⟩ := hSt
              exact does_off rfl rfl rfl (hh 18 _ (by kernel_rfl) rfl) rfl
            · cases ho
              refine .inr ⟨_, rfl, fun j v' a X hj hSt hr hh => ?_⟩
              obtain ⟨hO, hH, hD, hZ, _⟩ := hSt
              exact does_off rfl rfl rfl (hh 18 _ (by kernel_rfl) rfl) rfl
            · cases ho
              refine .inr ⟨_, rfl, fun j v' a X hj hSt hr hh => ?_⟩
              obtain ⟨hO, hH, hD, hZ, _⟩ := hSt
              exact does_off rfl rfl rfl (hh 18 _ (by kernel_rfl) rfl) rfl
            · cases ho
              refine .inr ⟨_, rfl, fun j v' a X hj hSt hr hh => ?_⟩
              obtain ⟨hO, hH, hD, hZ, _⟩ := hSt
              exact does_off rfl rfl rfl (hh 18 _ (by kernel_rfl) rfl) rfl
            · cases ho
              refine .inr ⟨_, rfl, fun j v' a X hj hSt hr hh => ?_⟩
              obtain ⟨hO, hH, hD, hZ, _⟩ := hSt
              exact does_off rfl rfl rfl (hh 18 _ (by kernel_rfl) rfl) rfl
            · cases ho
              refine .inr ⟨_, rfl, fun j v' a X hj hSt hr hh => ?_⟩
              obtain ⟨hO, hH, hD, hZ, _⟩ := hSt
              exact does_off rfl rfl rfl (hh 18 _ (by kernel_rfl) rfl) rfl
            · cases ho
              refine .inr ⟨_, rfl, fun j v' a X hj hSt hr hh => ?_⟩
              obtain ⟨hO, hH, hD, hZ, _⟩ := hSt
              exact does_on rfl rfl rfl (hh 3 _ (by kernel_rfl) rfl) (run_pick rfl ((hh 18 _ (by kernel_rfl) rfl).only rfl rfl) rfl ((hh 28 _ (by kernel_rfl) rfl).only rfl rfl))
            · cases ho
              refine .inr ⟨_, rfl, fun j v' a X hj hSt hr hh => ?_⟩
              obtain ⟨hO, hH, hD, hZ, _⟩ := hSt
              exact does_run rfl rfl (run_pick rfl ((hh 3 _ (by kernel_rfl) rfl).only rfl rfl) ((hh 29 _ (by kernel_rfl) rfl).only rfl rfl) rfl)
            · exact .inl ⟨0, by decide, rfl⟩
            · cases ho
          case he =>
            intro us wx _ hS
            simp only [List.foldl_cons, List.foldl_nil, List.setIfInBounds_toArray, List.set_cons_succ, List.set_cons_zero]
            generalize us 48 = u48; generalize us 49 = u49; generalize us 50 = u50; generalize us 51 = u51; generalize us 52 = u52; generalize us 53 = u53; generalize us 54 = u54; generalize us 55 = u55; generalize us 56 = u56; generalize us 57 = u57; generalize us 58 = u58; generalize us 59 = u59; generalize us 60 = u60; generalize us 61 = u61; generalize us 62 = u62; generalize us 63 = u63; generalize us 64 = u64; generalize us 65 = u65; generalize us 66 = u66; generalize us 67 = u67; generalize us 68 = u68; generalize us 69 = u69; generalize us 70 = u70; generalize us 71 = u71; generalize us 72 = u72; generalize us 73 = u73; generalize us 74 = u74; generalize us 75 = u75; generalize us 76 = u76; generalize us 77 = u77; generalize us 78 = u78; generalize us 79 = u79
            go_wp2_with fail
            go_meet
            obtain ⟨q1, q2, q3, q4, q5⟩ := hS
            rw [if_neg (by decide)] at q5
            exact ⟨q1, q2, q3, q4, q5.imp (fun q => ⟨q.1, by have h1 := HOK.out.symm.trans q.2; rw [fits11 HS1.out.1, HS1.out.2.1, HGS.out] at h1; simp only [Bool.and_eq_true] at h1; exact h1.1⟩)⟩
      · have HB2 := hid hb2
        have HOK : Hid (true = fits (read (g1 s x0) (sz (g1 s x0).nx) x1) x1) := hid (by
          have h0 : m = 0 := by
            have : (m : Int) = 0 := by simpa using hb2
            omega
          have h1 : ps = [] := List.eq_nil_of_length_eq_zero (by rw [HM.out]; exact h0)
          have h3 : (aheadP ([] : List Pr)).1 = -1 := rfl
          have h4 : (-1 : Int) < (x0 : Int) := by omega
          have h5 : (-1 : Int) ≤ (x0 : Int) := by omega
          rw [fits11 HS1.out.1 x1, HS1.out.2.1, HGS.out, HS1.out.2.2.1, HPS.out, h1, h3, hhas, HS1.out.2.2.2.2.2.2]
          simp [h4])
        have HST0 : Hid (PairSt w r mb b RES (hasG gs x0 = true) (g1 s x0) x1 true h d [Value.int .i64 em, .slice ag n ca, .slice ap m cb] [.int .i64 (x0 : Int), .int .i64 (x1 : Int), .bool false, .int .i64 0, .int .i64 0] 0 WD.drew) := hid ⟨HO3.out.drew, HF3.out, HD3.out, HZ3.out, by rw [if_pos rfl]; exact ⟨HT3.out.below (Below.refl _ _).drew, fun _ => HOK.out⟩⟩
        clear hge hb1 hb2 hhas
        refine effects (ci := fun i => ([31] : List Nat).getD i 0) (val := fun i => ([some (.pointer (some ⟨r, 0, none⟩)), some (.int .i64 z), some (.bool true), some (.bool true), some (.int .i64 (m : Int)), some (.bool true), some (.bool true), some (undef), some (undef), some (undef), some (undef), some (undef), some (undef), some (undef), some (undef), some (undef), some (undef), some (.bool true), some (.bool true), some (undef), some (undef), some (undef), some (undef), some (undef), some (undef), some (undef), some (undef), some (undef), some (undef), some (.bool true), some (.bool true), none] : List (Option Value)).getD i none) (fun j X _ => PairSt w r mb b RES (hasG gs x0 = true) (g1 s x0) x1 true h d [.int .i64 em, .slice ag n ca, .slice ap m cb] [.int .i64 (x0 : Int), .int .i64 (x1 : Int), .bool false, .int .i64 0, .int .i64 0] j X) undef
          (by kernel_rfl) (by kernel_rfl) (by kernel_rfl) (show 0 < 1 by decide) HST0.out (by kernel_rfl) (by kernel_rfl) ?hcall ?hp ⟨_, _, rfl, rfl⟩ [48, 49, 50, 51, 52, 53, 54, 55, 56, 57, 58, 59, 60, 61, 62, 63, 64, 65, 66, 67, 68, 69, 70, 71, 72, 73, 74, 75, 76, 77, 78, 79] (by kernel_rfl) ?he
        case hcall =>
          intro j hj
          obtain rfl : j = 0 := by omega
          refine ⟨_, rfl, fun h0 => absurd h0 (by decide), fun a X v hSt hr hh _ _ K hK => ?_⟩
          refine wpOp_one rfl rfl (wp_enter (run_call37 rfl ((hh 0 _ (by kernel_rfl) rfl).only rfl rfl) ((hh 30 _ (by kernel_rfl) rfl).only rfl rfl)) ((pairSt_must hSt HXN.out HSZ.out).mono ?_))
          rintro e X' ⟨rfl, hS'⟩
          exact ⟨_, rfl, hK _ _ hS'⟩
        case hp =>
          intro i o ho
          rcases i with _ | _ | _ | _ | _ | _ | _ | _ | _ | _ | _ | _ | _ | _ | _ | _ | _ | _ | _ | _ | _ | _ | _ | _ | _ | _ | _ | _ | _ | _ | _ | _ | i
          · cases ho
            refine .inr ⟨_, rfl, fun j v' a X hj hSt hr hh => ?_⟩
            obtain ⟨hO, hH, hD, hZ, _⟩ := hSt
            exact does_run rfl rfl (run_move rfl (eval_tmp (hr.2.2 0 (by kernel_rfl))))
          · cases ho
            refine .inr ⟨_, rfl, fun j v' a X hj hSt hr hh => ?_⟩
            obtain ⟨hO, hH, hD, hZ, _⟩ := hSt
            exact does_run rfl rfl (run_move rfl (eval_tmp (hr.2.2 8 (by kernel_rfl))))
          · cases ho
            refine .inr ⟨_, rfl, fun j v' a X hj hSt hr hh => ?_⟩
            obtain ⟨hO, hH, hD, hZ, _⟩ := hSt
            exact does_run rfl rfl (run_geq rfl ((hh 1 _ (by kernel_rfl) rfl).only rfl rfl) rfl HB1.out)
          · cases ho
            refine .inr ⟨_, rfl, fun j v' a X hj hSt hr hh => ?_⟩
            obtain ⟨hO, hH, hD, hZ, _⟩ := hSt
            exact does_run rfl rfl (run_move rfl ((hh 2 _ (by kernel_rfl) rfl).only rfl rfl))
          · cases ho
            refine .inr ⟨_, rfl, fun j v' a X hj hSt hr hh => ?_⟩
            obtain ⟨hO, hH, hD, hZ, _⟩ := hSt
            exact does_on rfl rfl rfl (hh 3 _ (by kernel_rfl) rfl) (run_move rfl (eval_tmp (hr.2.2 5 (by kernel_rfl))))
          · cases ho
            refine .inr ⟨_, rfl, fun j v' a X hj hSt hr hh => ?_⟩
            obtain ⟨hO, hH, hD, hZ, _⟩ := hSt
            exact does_on rfl rfl rfl (hh 3 _ (by kernel_rfl) rfl) (run_eql rfl ((hh 4 _ (by kernel_rfl) rfl).only rfl rfl) rfl HB2.out)
          · cases ho
            refine .inr ⟨_, rfl, fun j v' a X hj hSt hr hh => ?_⟩
            obtain ⟨hO, hH, hD, hZ, _⟩ := hSt
            exact does_on rfl rfl rfl (hh 3 _ (by kernel_rfl) rfl) (run_move rfl ((hh 5 _ (by kernel_rfl) rfl).only rfl rfl))
          · cases ho
            refine .inr ⟨_, rfl, fun j v' a X hj hSt hr hh => ?_⟩
            obtain ⟨hO, hH, hD, hZ, _⟩ := hSt
            exact does_off rfl rfl rfl (hh 6 _ (by kernel_rfl) rfl) rfl
          · cases ho
            refine .inr ⟨_, rfl, fun j v' a X hj hSt hr hh => ?_⟩
            obtain ⟨hO, hH, hD, hZ, _⟩ := hSt
            exact does_off rfl rfl rfl (hh 6 _ (by kernel_rfl) rfl) rfl
          · cases ho
            refine .inr ⟨_, rfl, fun j v' a X hj hSt hr hh => ?_⟩
            obtain ⟨hO, hH, hD, hZ, _⟩ := hSt
            exact does_off rfl rfl rfl (hh 6 _ (by kernel_rfl) rfl) rfl
          · cases ho
            refine .inr ⟨_, rfl, fun j v' a X hj hSt hr hh => ?_⟩
            obtain ⟨hO, hH, hD, hZ, _⟩ := hSt
            exact does_off rfl rfl rfl (hh 6 _ (by kernel_rfl) rfl) rfl
          · cases ho
            refine .inr ⟨_, rfl, fun j v' a X hj hSt hr hh => ?_⟩
            obtain ⟨hO, hH, hD, hZ, _⟩ := hSt
            exact does_off rfl rfl rfl (hh 6 _ (by kernel_rfl) rfl) rfl
          · cases ho
            refine .inr ⟨_, rfl, fun j v' a X hj hSt hr hh => ?_⟩
            obtain ⟨hO, hH, hD, hZ, _⟩ := hSt
            exact does_off rfl rfl rfl (hh 6 _ (by kernel_rfl) rfl) rfl
          · cases ho
            refine .inr ⟨_, rfl, fun j v' a X hj hSt hr hh => ?_⟩
            obtain ⟨hO, hH, hD, hZ, _⟩ := hSt
            exact does_off rfl rfl rfl (hh 6 _ (by kernel_rfl) rfl) rfl
          · cases ho
            refine .inr ⟨_, rfl, fun j v' a X hj hSt hr hh => ?_⟩
            obtain ⟨hO, hH, hD, hZ, _⟩ := hSt
            exact does_off rfl rfl rfl (hh 6 _ (by kernel_rfl) rfl) rfl
          · cases ho
            refine .inr ⟨_, rfl, fun j v' a X hj hSt hr hh => ?_⟩
            obtain ⟨hO, hH, hD, hZ, _⟩ := hSt
            exact does_off rfl rfl rfl (hh 6 _ (by kernel_rfl) rfl) rfl
          · cases ho
            refine .inr ⟨_, rfl, fun j v' a X hj hSt hr hh => ?_⟩
            obtain ⟨hO, hH, hD, hZ, _⟩ := hSt
            exact does_off rfl rfl rfl (hh 6 _ (by kernel_rfl) rfl) rfl
          · cases ho
            refine .inr ⟨_, rfl, fun j v' a X hj hSt hr hh => ?_⟩
            obtain ⟨hO, hH, hD, hZ, _⟩ := hSt
            exact does_on rfl rfl rfl (hh 3 _ (by kernel_rfl) rfl) (run_pick rfl ((hh 6 _ (by kernel_rfl) rfl).only rfl rfl) rfl ((hh 16 _ (by kernel_rfl) rfl).only rfl rfl))
          · cases ho
            refine .inr ⟨_, rfl, fun j v' a X hj hSt hr hh => ?_⟩
            obtain ⟨hO, hH, hD, hZ, _⟩ := hSt
            exact does_on rfl rfl rfl (hh 3 _ (by kernel_rfl) rfl) (run_move rfl ((hh 17 _ (by kernel_rfl) rfl).only rfl rfl))
          · cases ho
            refine .inr ⟨_, rfl, fun j v' a X hj hSt hr hh => ?_⟩
            obtain ⟨hO, hH, hD, hZ, _⟩ := hSt
            exact does_off rfl rfl rfl (hh 18 _ (by kernel_rfl) rfl) rfl
          · cases ho
            refine .inr ⟨_, rfl, fun j v' a X hj hSt hr hh => ?_⟩
            obtain ⟨hO, hH, hD, hZ, _⟩ := hSt
            exact does_off rfl rfl rfl (hh 18 _ (by kernel_rfl) rfl) rfl
          · cases ho
            refine .inr ⟨_, rfl, fun j v' a X hj hSt hr hh => ?_⟩
            obtain ⟨hO, hH, hD, hZ, _⟩ := hSt
            exact does_off rfl rfl rfl (hh 18 _ (by kernel_rfl) rfl) rfl
          · cases ho
            refine .inr ⟨_, rfl, fun j v' a X hj hSt hr hh => ?_⟩
            obtain ⟨hO, hH, hD, hZ, _⟩ := hSt
            exact does_off rfl rfl rfl (hh 18 _ (by kernel_rfl) rfl) rfl
          · cases ho
            refine .inr ⟨_, rfl, fun j v' a X hj hSt hr hh => ?_⟩
            obtain ⟨hO, hH, hD, hZ, _⟩ := hSt
            exact does_off rfl rfl rfl (hh 18 _ (by kernel_rfl) rfl) rfl
          · cases ho
            refine .inr ⟨_, rfl, fun j v' a X hj hSt hr hh => ?_⟩
            obtain ⟨hO, hH, hD, hZ, _⟩ := hSt
            exact does_off rfl rfl rfl (hh 18 _ (by kernel_rfl) rfl) rfl
          · cases ho
            refine .inr ⟨_, rfl, fun j v' a X hj hSt hr hh => ?_⟩
            obtain ⟨hO, hH, hD, hZ, _⟩ := hSt
            exact does_off rfl rfl rfl (hh 18 _ (by kernel_rfl) rfl) rfl
          · cases ho
            refine .inr ⟨_, rfl, fun j v' a X hj hSt hr hh => ?_⟩
            obtain ⟨hO, hH, hD, hZ, _⟩ := hSt
            exact does_off rfl rfl rfl (hh 18 _ (by kernel_rfl) rfl) rfl
          · cases ho
            refine .inr ⟨_, rfl, fun j v' a X hj hSt hr hh => ?_⟩
            obtain ⟨hO, hH, hD, hZ, _⟩ := hSt
            exact does_off rfl rfl rfl (hh 18 _ (by kernel_rfl) rfl) rfl
          · cases ho
            refine .inr ⟨_, rfl, fun j v' a X hj hSt hr hh => ?_⟩
            obtain ⟨hO, hH, hD, hZ, _⟩ := hSt
            exact does_off rfl rfl rfl (hh 18 _ (by kernel_rfl) rfl) rfl
          · cases ho
            refine .inr ⟨_, rfl, fun j v' a X hj hSt hr hh => ?_⟩
            obtain ⟨hO, hH, hD, hZ, _⟩ := hSt
            exact does_on rfl rfl rfl (hh 3 _ (by kernel_rfl) rfl) (run_pick rfl ((hh 18 _ (by kernel_rfl) rfl).only rfl rfl) rfl ((hh 28 _ (by kernel_rfl) rfl).only rfl rfl))
          · cases ho
            refine .inr ⟨_, rfl, fun j v' a X hj hSt hr hh => ?_⟩
            obtain ⟨hO, hH, hD, hZ, _⟩ := hSt
            exact does_run rfl rfl (run_pick rfl ((hh 3 _ (by kernel_rfl) rfl).only rfl rfl) ((hh 29 _ (by kernel_rfl) rfl).only rfl rfl) rfl)
          · exact .inl ⟨0, by decide, rfl⟩
          · cases ho
        case he =>
          intro us wx _ hS
          simp only [List.foldl_cons, List.foldl_nil, List.setIfInBounds_toArray, List.set_cons_succ, List.set_cons_zero]
          generalize us 48 = u48; generalize us 49 = u49; generalize us 50 = u50; generalize us 51 = u51; generalize us 52 = u52; generalize us 53 = u53; generalize us 54 = u54; generalize us 55 = u55; generalize us 56 = u56; generalize us 57 = u57; generalize us 58 = u58; generalize us 59 = u59; generalize us 60 = u60; generalize us 61 = u61; generalize us 62 = u62; generalize us 63 = u63; generalize us 64 = u64; generalize us 65 = u65; generalize us 66 = u66; generalize us 67 = u67; generalize us 68 = u68; generalize us 69 = u69; generalize us 70 = u70; generalize us 71 = u71; generalize us 72 = u72; generalize us 73 = u73; generalize us 74 = u74; generalize us 75 = u75; generalize us 76 = u76; generalize us 77 = u77; generalize us 78 = u78; generalize us 79 = u79
          go_wp2_with fail
          go_meet
          obtain ⟨q1, q2, q3, q4, q5⟩ := hS
          rw [if_neg (by decide)] at q5
          exact ⟨q1, q2, q3, q4, q5.imp (fun q => ⟨q.1, by have h1 := HOK.out.symm.trans q.2; rw [fits11 HS1.out.1, HS1.out.2.1, HGS.out] at h1; simp only [Bool.and_eq_true] at h1; exact h1.1⟩)⟩
  case rest =>
  obtain ⟨o4, hf4, hd4, hz4, t4⟩ := hcut
  have HS2 := hid (g1_11 HS1.out.1 (g1_nu _ _) x1)
  have HO := hid o4
  have HF4 := hid hf4
  have HD4 := hid hd4
  have HZ := hid hz4
  have HT := hid t4
  clear o4 hf4 hd4 hz4 t4 HO3 HF3 HZ3 HT3 HD3
  obtain ⟨zR, hzR⟩ : ∃ zR, z = zR := ⟨_, rfl⟩
  have HZR : Hid ((hasG gs x1 = false ∧ zR = -1) ∨ (hasG gs x1 = true ∧ ∃ k : Nat, zR = k ∧ gs[k]? = some (gotG gs x1))) := hid (by rw [← hzR]; exact HZL.out)
  rw [hzR]
  clear hzR HZL HXN z
  go_wp2_with fail
  rw [show (1 : Int) = ((1 : Nat) : Int) from rfl]
  refine (number_f _ r mb b RES (g1 (g1 s x0) x1) 1 (by rw [HS2.out.1]; rfl) (by rw [HS2.out.1]; decide) HSZ.out wc HT.out).mono ?_
  rintro e Wa ⟨kd, rfl, hkd, hoa, hka, hta⟩
  have hkdi : (kd : Int) ≤ 4294967295 := by omega
  have HO := hid (HO.out.trans hoa)
  have HF4 := hid (hka _ _ _ (by decide) (by decide) HF4.out)
  have HD4 := hid (hka _ _ _ (by decide) (by decide) HD4.out)
  have HZ := hid (hka _ _ _ (by decide) (by decide) HZ.out)
  have HTa := hid hta
  clear hkd hoa hka hta HT
  have HMK := hid (must_f (hasG gs x0 = true ∧ hasG gs x1 = true) r mb b RES (g1 (g1 s x0) x1) kd ((kd : Int) == 1 || (kd : Int) == 2) Wa (by rw [HS2.out.1]; decide) HSZ.out HTa.out (fun _ => by
    rw [fits12 HS2.out.1]
    have e1 : ((kd : Int) == 1) = decide (kd = 1) := by rw [Bool.eq_iff_iff]; simp; omega
    have e2 : ((kd : Int) == 2) = decide (kd = 2) := by rw [Bool.eq_iff_iff]; simp; omega
    rw [e1, e2]))
  go_upto_region 9 with fail
  go_cut [] from 82 to 89 (fun wx => Only [r, mb] w wx ∧ Blk wx h [Value.int .i64 em, .slice ag n ca, .slice ap m cb] 25 ∧ Blk wx d [.int .i64 (x0 : Int), .int .i64 (x1 : Int), .bool false, .int .i64 0, .int .i64 0] 35 ∧ Blk wx (h + 1) [.int .i64 0, .int .i64 0, .bool false, .int .i64 0, .int .i64 0] 35 ∧ TAF ((hasG gs x0 = true ∧ hasG gs x1 = true) ∧ (kd = 1 ∨ kd = 2)) r mb b RES (g1 (g1 (g1 s x0) x1) kd) wx)
  case first =>
    rcases hk1 : ((kd : Int) == 1) with _ | _
    · rcases hk2 : ((kd : Int) == 2) with _ | _
      all_goals
        have HK := hid (And.intro hk1 hk2)
        rw [hk1, hk2] at HMK
        go_wp2_with fail
        refine HMK.out.mono ?_
        rintro e Wm ⟨rfl, hom, hkm, htm⟩
        have HQ := hid (And.intro (HO.out.trans hom) (And.intro (hkm _ _ _ (by decide) (by decide) HF4.out) (And.intro (hkm _ _ _ (by decide) (by decide) HD4.out) (And.intro (hkm _ _ _ (by decide) (by decide) HZ.out) htm))))
        clear hom hkm htm
        go_wp2_with fail
        go_meet
        obtain ⟨q1, q2, q3, q4, q5⟩ := HQ.out
        refine ⟨q1, q2, q3, q4, q5.imp (fun q => ⟨q.1, ?_⟩)⟩
        have h2 := q.2
        have h3 := HK.out.1
        have h4 := HK.out.2
        simp at h2 h3 h4
        try omega
    · have HK := hid hk1
      rw [hk1, Bool.true_or] at HMK
      go_wp2_with fail
      refine HMK.out.mono ?_
      rintro e Wm ⟨rfl, hom, hkm, htm⟩
      have HQ := hid (And.intro (HO.out.trans hom) (And.intro (hkm _ _ _ (by decide) (by decide) HF4.out) (And.intro (hkm _ _ _ (by decide) (by decide) HD4.out) (And.intro (hkm _ _ _ (by decide) (by decide) HZ.out) htm))))
      clear hom hkm htm
      go_wp2_with fail
      go_meet
      obtain ⟨q1, q2, q3, q4, q5⟩ := HQ.out
      refine ⟨q1, q2, q3, q4, q5.imp (fun q => ⟨q.1, .inl ?_⟩)⟩
      have h3 := HK.out
      simp at h3
      omega
  case rest =>
  obtain ⟨o5, hf5, hd5, hz5, t5⟩ := hcut
  have HS3 := hid (g1_12 HS2.out.1 (g1_nu _ _) kd)
  have HP3 : Hid ((g1 (g1 (g1 s x0) x1) kd).p = ((x0 : Int), (x1 : Int), decide (kd = 1), 0, 0)) := hid (by rw [HS3.out.2.2.2.2.2.2, HS2.out.2.2.2.2.2.2, HS1.out.2.2.2.2.2.2])
  have HO := hid o5
  have HF := hid hf5
  have HD := hid hd5
  have HZ := hid hz5
  clear o5 hf5 hd5 hz5 HMK HTa HF4 HD4
  rcases t5 with ⟨hF, i, mm, hra⟩ | hbd
  · have HFF := hid hF
    have HRA := hid hra
    have HFN := hid (fine_any r mb b i 0 0 mm wc hra.rs)
    clear hF hra
    obtain ⟨⟨hL, hR⟩, hkd⟩ := HFF.out
    rcases hkd with rfl | rfl
    · have HX3 : Hid ((g1 (g1 (g1 s x0) x1) 1).nx = 13) := hid (by have := HS3.out.1; simpa using this)
      have d2 : wc.cell? ⟨d, 2, none⟩ = some (.bool false) := HD.out.cell 2
      have f2 := HD.out.froz 2
      clear hL hR
      go_wp2_with (go_at_call 38; refine HFN.out.mono ?_; rintro e' w' ⟨rfl, rfl⟩)
      have HDb : Hid (Blk (w'.setCell ⟨d, 2, none⟩ (.bool true)) d [.int .i64 (x0 : Int), .int .i64 (x1 : Int), .bool true, .int .i64 0, .int .i64 0] 35) := hid (HD.out.set 2 _)
      have HFb : Hid (Blk (w'.setCell ⟨d, 2, none⟩ (.bool true)) h [Value.int .i64 em, .slice ag n ca, .slice ap m cb] 25) := hid (oth HF.out (by have := HDL.out; omega))
      have HZb : Hid (Blk (w'.setCell ⟨d, 2, none⟩ (.bool true)) (h + 1) [.int .i64 0, .int .i64 0, .bool false, .int .i64 0, .int .i64 0] 35) := hid (oth HZ.out (by have := HDL.out; omega))
      have HOb : Hid (Only [r, mb] w (w'.setCell ⟨d, 2, none⟩ (.bool true))) := hid (HO.out.set (p := ⟨d, 2, none⟩) (.inr HDL.out.2) _)
      have HTb : Hid (TAF True r mb b RES (g1 (g1 (g1 s x0) x1) 1) (w'.setCell ⟨d, 2, none⟩ (.bool true))) := hid (TAF.set (.inl ⟨trivial, i, mm, HRA.out⟩) HD.out (by decide) (by decide) _)
      clear HD HF HZ HO d2 f2
      rw [show (3 : Int) = ((3 : Nat) : Int) from rfl]
      refine (number_f True r mb b RES (g1 (g1 (g1 s x0) x1) 1) 3 (by rw [HX3.out]; rfl) (by rw [HX3.out]; decide) HSZ.out _ HTb.out).mono ?_
      rintro e Wn ⟨x3, rfl, hx3, hon, hkn, htn⟩
      have hx3i : (x3 : Int) ≤ 4294967295 := by omega
      have HDn := hid (hkn _ _ _ (by decide) (by decide) HDb.out)
      have HFn := hid (hkn _ _ _ (by decide) (by decide) HFb.out)
      have HZn := hid (hkn _ _ _ (by decide) (by decide) HZb.out)
      have HOn := hid (HOb.out.trans hon)
      have HTn := hid htn
      have c3 : Wn.cell? ⟨d, 3, none⟩ = some (.int .i64 0) := HDn.out.cell 3
      have f3 := HDn.out.froz 3
      clear hx3 hon hkn htn HDb HFb HZb HOb HTb
      have HDc : Hid (Blk (Wn.setCell ⟨d, 3, none⟩ (.int .i64 (x3 : Int))) d [.int .i64 (x0 : Int), .int .i64 (x1 : Int), .bool true, .int .i64 (x3 : Int), .int .i64 0] 35) := hid (HDn.out.set 3 _)
      have HFc : Hid (Blk (Wn.setCell ⟨d, 3, none⟩ (.int .i64 (x3 : Int))) h [Value.int .i64 em, .slice ag n ca, .slice ap m cb] 25) := hid (oth HFn.out (by have := HDL.out; omega))
      have HZc : Hid (Blk (Wn.setCell ⟨d, 3, none⟩ (.int .i64 (x3 : Int))) (h + 1) [.int .i64 0, .int .i64 0, .bool false, .int .i64 0, .int .i64 0] 35) := hid (oth HZn.out (by have := HDL.out; omega))
      have HOc : Hid (Only [r, mb] w (Wn.setCell ⟨d, 3, none⟩ (.int .i64 (x3 : Int)))) := hid (HOn.out.set (p := ⟨d, 3, none⟩) (.inr HDL.out.2) _)
      have HTc : Hid (TPF True r mb b RES (g1 (g1 (g1 s x0) x1) 1) x3 (Wn.setCell ⟨d, 3, none⟩ (.int .i64 (x3 : Int)))) := hid (HTn.out.set HDn.out (by decide) (by decide) _)
      have a0 : (Wn.setCell ⟨d, 3, none⟩ (.int .i64 (x3 : Int))).cell? ⟨h, 0, none⟩ = some (.int .i64 em) := HFc.out.cell 0
      have a1 : (Wn.setCell ⟨d, 3, none⟩ (.int .i64 (x3 : Int))).cell? ⟨h, 1, none⟩ = some (.slice ag n ca) := HFc.out.cell 1
      have a2 : (Wn.setCell ⟨d, 3, none⟩ (.int .i64 (x3 : Int))).cell? ⟨h, 2, none⟩ = some (.slice ap m cb) := HFc.out.cell 2
      have a3 : (Wn.setCell ⟨d, 3, none⟩ (.int .i64 (x3 : Int))).cell? ⟨d, 3, none⟩ = some (.int .i64 (x3 : Int)) := HDc.out.cell 3
      go_wp2_with fail
      refine (HGLI.out _ HOc.out x3).mono ?_
      rintro e WD ⟨⟨z, rfl, hz⟩, hbd⟩
      have HZL := hid hz
      have HDe := hid (HDc.out.below hbd)
      have HZe := hid (HZc.out.below hbd)
      have HTe := hid (HTc.out.below hbd)
      have HOe := hid (HOc.out.trans ((Only.ofBelow hbd).mono (by simp)) : Only [r, mb] w WD)
      have HMK := hid (must_f True r mb b RES (g1 (g1 (g1 s x0) x1) 1) x3 (decide (0 ≤ z)) WD (by rw [HX3.out]; decide) HSZ.out HTe.out (fun _ => by
        rw [fits13 HX3.out, HS3.out.2.1, HS2.out.2.1, HS1.out.2.1, HGS.out]; exact gl_ge HZL.out))
      clear hz hbd a0 a1 a2 a3 c3 f3 HDc HFc HZc HTc HOc HDn HFn HZn HOn HTn
      go_wp2_with fail
      refine HMK.out.mono ?_
      rintro e' w' ⟨rfl, hom, hkm, htm⟩
      have HD := hid (hkm _ _ _ (by decide) (by decide) HDe.out)
      have HZ := hid (hkm _ _ _ (by decide) (by decide) HZe.out)
      have HO := hid (HOe.out.trans hom)
      have HTF := hid htm.ta
      clear hom hkm htm HDe HZe HOe HTe HMK
      have d0 : w'.cell? ⟨d, 0, none⟩ = some (.int .i64 (x0 : Int)) := HD.out.cell 0
      have z0 : w'.cell? ⟨h + 1, 0, none⟩ = some (.int .i64 0) := HZ.out.cell 0
      have y0 := HZ.out.froz 0
      have d1 : w'.cell? ⟨d, 1, none⟩ = some (.int .i64 (x1 : Int)) := HD.out.cell 1
      have z1 : w'.cell? ⟨h + 1, 1, none⟩ = some (.int .i64 0) := HZ.out.cell 1
      have y1 := HZ.out.froz 1
      have d2 : w'.cell? ⟨d, 2, none⟩ = some (.bool true) := HD.out.cell 2
      have z2 : w'.cell? ⟨h + 1, 2, none⟩ = some (.bool false) := HZ.out.cell 2
      have y2 := HZ.out.froz 2
      have d3 : w'.cell? ⟨d, 3, none⟩ = some (.int .i64 (x3 : Int)) := HD.out.cell 3
      have z3 : w'.cell? ⟨h + 1, 3, none⟩ = some (.int .i64 0) := HZ.out.cell 3
      have y3 := HZ.out.froz 3
      have d4 : w'.cell? ⟨d, 4, none⟩ = some (.int .i64 0) := HD.out.cell 4
      have z4 : w'.cell? ⟨h + 1, 4, none⟩ = some (.int .i64 0) := HZ.out.cell 4
      have y4 := HZ.out.froz 4
      go_wp2_with fail
      have G := g1_13 HX3.out (g1_nu _ _) x3
      have HRS : Hid (Blk (((((w'.setCell ⟨h + 1, 0, none⟩ (.int .i64 (x0 : Int))).setCell ⟨h + 1, 1, none⟩ (.int .i64 (x1 : Int))).setCell ⟨h + 1, 2, none⟩ (.bool true)).setCell ⟨h + 1, 3, none⟩ (.int .i64 (x3 : Int))).setCell ⟨h + 1, 4, none⟩ (.int .i64 0)) (h + 1) [.int .i64 (x0 : Int), .int .i64 (x1 : Int), .bool true, .int .i64 (x3 : Int), .int .i64 0] 35) := hid (((((HZ.out.set 0 _).set 1 _).set 2 _).set 3 _).set 4 _)
      have hHL : w.heap.size ≤ h + 1 := by have := HH.out; omega
      have hoz : Only [r, mb] w (((((w'.setCell ⟨h + 1, 0, none⟩ (.int .i64 (x0 : Int))).setCell ⟨h + 1, 1, none⟩ (.int .i64 (x1 : Int))).setCell ⟨h + 1, 2, none⟩ (.bool true)).setCell ⟨h + 1, 3, none⟩ (.int .i64 (x3 : Int))).setCell ⟨h + 1, 4, none⟩ (.int .i64 0)) := ((((HO.out.set (p := ⟨h + 1, 0, none⟩) (.inr hHL) _).set (p := ⟨h + 1, 1, none⟩) (.inr hHL) _).set (p := ⟨h + 1, 2, none⟩) (.inr hHL) _).set (p := ⟨h + 1, 3, none⟩) (.inr hHL) _).set (p := ⟨h + 1, 4, none⟩) (.inr hHL) _
      refine bodyPost_ret (results40 HRS.out rfl) rfl (PairPost.of _ _ _ _ _ (g1 (g1 (g1 (g1 s x0) x1) 1) x3) hoz (kp_of HBK.out hoz (by intro q hq; simpa using hq)) ?_ rfl (by rw [G.1, HS3.out.2.1, HS2.out.2.1, HS1.out.2.1]) (by rw [G.2.1, HS3.out.2.2.1, HS2.out.2.2.1, HS1.out.2.2.1, HP3.out]; rfl) (by rw [G.2.2.1, HS3.out.2.2.2.1, HS2.out.2.2.2.1, HS1.out.2.2.2.1]) (by rw [G.2.2.2.1, HS3.out.2.2.2.2.1, HS2.out.2.2.2.2.1, HS1.out.2.2.2.2.1]) (by rw [G.2.2.2.2.1, HS3.out.2.2.2.2.2.1, HS2.out.2.2.2.2.2.1, HS1.out.2.2.2.2.2.1]) (by rw [G.2.2.2.2.2, HS3.out.2.2.1, HS2.out.2.2.1, HS1.out.2.2.1, HS3.out.2.2.2.2.2.1, HS2.out.2.2.2.2.2.1, HS1.out.2.2.2.2.2.1]))
      exact (((((TA.set HTF.out HZ.out (by decide) (by decide) _).set (HZ.out.set 0 _) (by decide) (by decide) _).set ((HZ.out.set 0 _).set 1 _) (by decide) (by decide) _).set (((HZ.out.set 0 _).set 1 _).set 2 _) (by decide) (by decide) _).set ((((HZ.out.set 0 _).set 1 _).set 2 _).set 3 _) (by decide) (by decide) _)
    · have HX3 : Hid ((g1 (g1 (g1 s x0) x1) 2).nx = 14) := hid (by have := HS3.out.1; simpa using this)
      obtain ⟨kL, hkL, hgL⟩ : ∃ k : Nat, zL = k ∧ gs[k]? = some (gotG gs x0) := by
        rcases HZLL.out with ⟨h1, _⟩ | ⟨_, h1⟩
        · rw [hL] at h1; cases h1
        · exact h1
      obtain ⟨kR, hkR, hgR⟩ : ∃ k : Nat, zR = k ∧ gs[k]? = some (gotG gs x1) := by
        rcases HZR.out with ⟨h1, _⟩ | ⟨_, h1⟩
        · rw [hR] at h1; cases h1
        · exact h1
      subst hkL; subst hkR
      have hlL : kL < n := by rw [← HN.out]; exact (List.getElem?_eq_some_iff.1 hgL).1
      have hlR : kR < n := by rw [← HN.out]; exact (List.getElem?_eq_some_iff.1 hgR).1
      obtain ⟨bg, off, rfl, _, _⟩ := Sl.glyph' (HSG.out w (Only.refl _ _)) HN.out hgL
      have hwL := HGW.out _ (List.mem_of_getElem? hgL)
      have hwR := HGW.out _ (List.mem_of_getElem? hgR)
      obtain ⟨wL, hWL⟩ : ∃ wL, (gotG gs x0).2.1 = wL := ⟨_, rfl⟩
      obtain ⟨wR, hWR⟩ : ∃ wR, (gotG gs x1).2.1 = wR := ⟨_, rfl⟩
      have HCL : Hid (∀ X, Only [r, mb] w X → X.cell? ⟨bg, off + kL * 4 + 1, none⟩ = some (.int .i64 wL)) := hid fun X hX => by
        obtain ⟨b2, off2, e, _, hga2⟩ := Sl.glyph' (HSG.out X hX) HN.out hgL
        cases e
        rw [← hWL]
        exact hga2.c1
      have HCR : Hid (∀ X, Only [r, mb] w X → X.cell? ⟨bg, off + kR * 4 + 1, none⟩ = some (.int .i64 wR)) := hid fun X hX => by
        obtain ⟨b2, off2, e, _, hga2⟩ := Sl.glyph' (HSG.out X hX) HN.out hgR
        cases e
        rw [← hWR]
        exact hga2.c1
      rw [hWL] at hwL
      rw [hWR] at hwR
      have HWL := hid hWL
      have HWR := hid hWR
      have HWB := hid (And.intro hwL hwR)
      have iL0 : (0 : Int) ≤ (kL : Int) := by omega
      have iR0 : (0 : Int) ≤ (kR : Int) := by omega
      have iL1 : (kL : Int) < (n : Int) := by omega
      have iR1 : (kR : Int) < (n : Int) := by omega
      clear hL hR hgL hgR hwL hwR hWL hWR hlL hlR
      go_wp2_with (go_at_call 38; refine HFN.out.mono ?_; rintro e' w' ⟨rfl, rfl⟩)
      have HTb : Hid (TAF True r mb b RES (g1 (g1 (g1 s x0) x1) 2) w') := hid (.inl ⟨trivial, i, mm, HRA.out⟩)
      rw [show (2 : Int) = ((2 : Nat) : Int) from rfl]
      refine (number_f True r mb b RES (g1 (g1 (g1 s x0) x1) 2) 2 (by rw [HX3.out]; rfl) (by rw [HX3.out]; decide) HSZ.out _ HTb.out).mono ?_
      rintro e Wn ⟨x4, rfl, hx4, hon, hkn, htn⟩
      have hx4i : (x4 : Int) ≤ 4294967295 := by omega
      have HDn := hid (hkn _ _ _ (by decide) (by decide) HD.out)
      have HFn := hid (hkn _ _ _ (by decide) (by decide) HF.out)
      have HZn := hid (hkn _ _ _ (by decide) (by decide) HZ.out)
      have HOn := hid (HO.out.trans hon)
      have HTn := hid htn
      have c4 : Wn.cell? ⟨d, 4, none⟩ = some (.int .i64 0) := HDn.out.cell 4
      have f4 := HDn.out.froz 4
      have hwk : IntKind.i64.wrap ((x4 : Int) - 32768) = (x4 : Int) - 32768 := by
        simp only [IntKind.wrap, IntKind.bits, IntKind.signed]
        simp
        omega
      clear hx4 hon hkn htn HD HF HZ HO HTb
      have HDc : Hid (Blk (Wn.setCell ⟨d, 4, none⟩ (.int .i64 ((x4 : Int) - 32768))) d [.int .i64 (x0 : Int), .int .i64 (x1 : Int), .bool false, .int .i64 0, .int .i64 ((x4 : Int) - 32768)] 35) := hid (HDn.out.set 4 _)
      have HFc : Hid (Blk (Wn.setCell ⟨d, 4, none⟩ (.int .i64 ((x4 : Int) - 32768))) h [Value.int .i64 em, .slice (some ⟨bg, off, none⟩) n ca, .slice ap m cb] 25) := hid (oth HFn.out (by have := HDL.out; omega))
      have HZc : Hid (Blk (Wn.setCell ⟨d, 4, none⟩ (.int .i64 ((x4 : Int) - 32768))) (h + 1) [.int .i64 0, .int .i64 0, .bool false, .int .i64 0, .int .i64 0] 35) := hid (oth HZn.out (by have := HDL.out; omega))
      have HOc : Hid (Only [r, mb] w (Wn.setCell ⟨d, 4, none⟩ (.int .i64 ((x4 : Int) - 32768)))) := hid (HOn.out.set (p := ⟨d, 4, none⟩) (.inr HDL.out.2) _)
      have HTc : Hid (TPF True r mb b RES (g1 (g1 (g1 s x0) x1) 2) x4 (Wn.setCell ⟨d, 4, none⟩ (.int .i64 ((x4 : Int) - 32768)))) := hid (HTn.out.set HDn.out (by decide) (by decide) _)
      have a1 : (Wn.setCell ⟨d, 4, none⟩ (.int .i64 ((x4 : Int) - 32768))).cell? ⟨h, 1, none⟩ = some (.slice (some ⟨bg, off, none⟩) n ca) := HFc.out.cell 1
      have aL : (Wn.setCell ⟨d, 4, none⟩ (.int .i64 ((x4 : Int) - 32768))).cell? ⟨bg, off + kL * 4 + 1, none⟩ = some (.int .i64 wL) := HCL.out _ HOc.out
      have aR : (Wn.setCell ⟨d, 4, none⟩ (.int .i64 ((x4 : Int) - 32768))).cell? ⟨bg, off + kR * 4 + 1, none⟩ = some (.int .i64 wR) := HCR.out _ HOc.out
      go_upto_if 125 with fail
      obtain ⟨W5, hW5⟩ : ∃ W5, Wn.setCell ⟨d, 4, none⟩ (.int .i64 ((x4 : Int) - 32768)) = W5 := ⟨_, rfl⟩
      rw [hW5] at HDc HFc HZc HOc HTc a1 aL aR ⊢
      clear hW5 c4 f4 HDn HFn HZn HOn HTn
      obtain ⟨LS, hLS⟩ : ∃ LS, min wL wR = LS := ⟨_, rfl⟩
      have HLS := hid hLS
      clear hLS
      go_cut [10] from 118 to 131 (fun v wx => v = .int .i64 LS ∧ wx = W5)
      case first =>
        by_cases hlt : wR < wL
        · have HL2 := hid hlt
          go_wp2_with fail
          go_meet
          exact ⟨by rw [← HLS.out, Int.min_eq_right (Int.le_of_lt HL2.out)], rfl⟩
        · have HL2 := hid hlt
          go_wp2_with fail
          go_meet
          exact ⟨by rw [← HLS.out, Int.min_eq_left (by have := HL2.out; omega)], rfl⟩
      case rest =>
      obtain ⟨rfl, hwc⟩ := hcut
      rw [hwc]
      clear hwc a1 aL aR
      have hLb : 0 ≤ LS ∧ LS ≤ 4294967296 := by have := HWB.out; have := HLS.out; omega
      have hneg : IntKind.i64.wrap (-LS) = -LS := by
        simp only [IntKind.wrap, IntKind.bits, IntKind.signed]
        simp
        omega
      have a4 : W5.cell? ⟨d, 4, none⟩ = some (.int .i64 ((x4 : Int) - 32768)) := HDc.out.cell 4
      obtain ⟨K, hK⟩ : ∃ K, (x4 : Int) - 32768 = K := ⟨_, rfl⟩
      have HKK := hid hK
      rw [hK] at HDc a4 hwk ⊢
      have HMK := hid (must_f True r mb b RES (g1 (g1 (g1 s x0) x1) 2) x4 ((K != 0) && (decide (K ≤ 16384) && decide (-LS ≤ K))) W5 (by rw [HX3.out]; decide) HSZ.out HTc.out (fun _ => by
        rw [fits14 HX3.out]
        unfold mayK
        have e1 : (g1 (g1 (g1 s x0) x1) 2).gs = gs := by rw [HS3.out.2.1, HS2.out.2.1, HS1.out.2.1, HGS.out]
        rw [e1, HP3.out]
        simp only []
        rw [HWL.out, HWR.out, HLS.out, HKK.out]
        congr 1
        rw [Bool.eq_iff_iff]; simp))
      clear hK
      go_upto_region 21 with fail
      go_cut [] from 132 to 148 (fun wx => Only [r, mb] w wx ∧ Blk wx d [.int .i64 (x0 : Int), .int .i64 (x1 : Int), .bool false, .int .i64 0, .int .i64 K] 35 ∧ Blk wx (h + 1) [.int .i64 0, .int .i64 0, .bool false, .int .i64 0, .int .i64 0] 35 ∧ TA r mb b RES (g1 (g1 (g1 (g1 s x0) x1) 2) x4) wx)
      case first =>
        rcases hk1 : (K != 0) with _ | _
        · simp only [hk1, Bool.false_and] at HMK
          go_wp2_with fail
          refine HMK.out.mono ?_
          rintro e' Wm ⟨rfl, hom, hkm, htm⟩
          have HQ := hid (And.intro (HOc.out.trans hom) (And.intro (hkm _ _ _ (by decide) (by decide) HDc.out) (And.intro (hkm _ _ _ (by decide) (by decide) HZc.out) htm.ta)))
          clear hom hkm htm
          go_wp2_with fail
          go_meet
          exact HQ.out
        · rcases hk2 : decide (K ≤ 16384) with _ | _
          all_goals
            simp only [hk1, hk2, Bool.false_and, Bool.true_and] at HMK
            go_wp2_with fail
            refine HMK.out.mono ?_
            rintro e' Wm ⟨rfl, hom, hkm, htm⟩
            have HQ := hid (And.intro (HOc.out.trans hom) (And.intro (hkm _ _ _ (by decide) (by decide) HDc.out) (And.intro (hkm _ _ _ (by decide) (by decide) HZc.out) htm.ta)))
            clear hom hkm htm
            go_wp2_with fail
            go_meet
            exact HQ.out
      case rest =>
      obtain ⟨o9, hd9, hz9, t9⟩ := hcut
      have HD := hid hd9
      have HZ := hid hz9
      have HO := hid o9
      have HTF := hid t9
      clear o9 hd9 hz9 t9 HMK HDc HFc HZc HOc HTc a4 hneg hwk
      have d0 : wc.cell? ⟨d, 0, none⟩ = some (.int .i64 (x0 : Int)) := HD.out.cell 0
      have z0 : wc.cell? ⟨h + 1, 0, none⟩ = some (.int .i64 0) := HZ.out.cell 0
      have y0 := HZ.out.froz 0
      have d1 : wc.cell? ⟨d, 1, none⟩ = some (.int .i64 (x1 : Int)) := HD.out.cell 1
      have z1 : wc.cell? ⟨h + 1, 1, none⟩ = some (.int .i64 0) := HZ.out.cell 1
      have y1 := HZ.out.froz 1
      have d2 : wc.cell? ⟨d, 2, none⟩ = some (.bool false) := HD.out.cell 2
      have z2 : wc.cell? ⟨h + 1, 2, none⟩ = some (.bool false) := HZ.out.cell 2
      have y2 := HZ.out.froz 2
      have d3 : wc.cell? ⟨d, 3, none⟩ = some (.int .i64 0) := HD.out.cell 3
      have z3 : wc.cell? ⟨h + 1, 3, none⟩ = some (.int .i64 0) := HZ.out.cell 3
      have y3 := HZ.out.froz 3
      have d4 : wc.cell? ⟨d, 4, none⟩ = some (.int .i64 K) := HD.out.cell 4
      have z4 : wc.cell? ⟨h + 1, 4, none⟩ = some (.int .i64 0) := HZ.out.cell 4
      have y4 := HZ.out.froz 4
      go_wp2_with fail
      have G := g1_14 HX3.out (g1_nu _ _) x4
      have HRS : Hid (Blk (((((wc.setCell ⟨h + 1, 0, none⟩ (.int .i64 (x0 : Int))).setCell ⟨h + 1, 1, none⟩ (.int .i64 (x1 : Int))).setCell ⟨h + 1, 2, none⟩ (.bool false)).setCell ⟨h + 1, 3, none⟩ (.int .i64 0)).setCell ⟨h + 1, 4, none⟩ (.int .i64 K)) (h + 1) [.int .i64 (x0 : Int), .int .i64 (x1 : Int), .bool false, .int .i64 0, .int .i64 K] 35) := hid (((((HZ.out.set 0 _).set 1 _).set 2 _).set 3 _).set 4 _)
      have hHL : w.heap.size ≤ h + 1 := by have := HH.out; omega
      have hoz : Only [r, mb] w (((((wc.setCell ⟨h + 1, 0, none⟩ (.int .i64 (x0 : Int))).setCell ⟨h + 1, 1, none⟩ (.int .i64 (x1 : Int))).setCell ⟨h + 1, 2, none⟩ (.bool false)).setCell ⟨h + 1, 3, none⟩ (.int .i64 0)).setCell ⟨h + 1, 4, none⟩ (.int .i64 K)) := ((((HO.out.set (p := ⟨h + 1, 0, none⟩) (.inr hHL) _).set (p := ⟨h + 1, 1, none⟩) (.inr hHL) _).set (p := ⟨h + 1, 2, none⟩) (.inr hHL) _).set (p := ⟨h + 1, 3, none⟩) (.inr hHL) _).set (p := ⟨h + 1, 4, none⟩) (.inr hHL) _
      refine bodyPost_ret (results40 HRS.out rfl) rfl (PairPost.of _ _ _ _ _ (g1 (g1 (g1 (g1 s x0) x1) 2) x4) hoz (kp_of HBK.out hoz (by intro q hq; simpa using hq)) ?_ rfl (by rw [G.1, HS3.out.2.1, HS2.out.2.1, HS1.out.2.1]) (by rw [G.2.1, HS3.out.2.2.1, HS2.out.2.2.1, HS1.out.2.2.1, HP3.out, HKK.out]; rfl) (by rw [G.2.2.1, HS3.out.2.2.2.1, HS2.out.2.2.2.1, HS1.out.2.2.2.1]) (by rw [G.2.2.2.1, HS3.out.2.2.2.2.1, HS2.out.2.2.2.2.1, HS1.out.2.2.2.2.1]) (by rw [G.2.2.2.2.1, HS3.out.2.2.2.2.2.1, HS2.out.2.2.2.2.2.1, HS1.out.2.2.2.2.2.1]) (by rw [G.2.2.2.2.2, HS3.out.2.2.1, HS2.out.2.2.1, HS1.out.2.2.1, HS3.out.2.2.2.2.2.1, HS2.out.2.2.2.2.2.1, HS1.out.2.2.2.2.2.1]))
      exact (((((TA.set HTF.out HZ.out (by decide) (by decide) _).set (HZ.out.set 0 _) (by decide) (by decide) _).set ((HZ.out.set 0 _).set 1 _) (by decide) (by decide) _).set (((HZ.out.set 0 _).set 1 _).set 2 _) (by decide) (by decide) _).set ((((HZ.out.set 0 _).set 1 _).set 2 _).set 3 _) (by decide) (by decide) _)
  · have HBD := hid hbd
    obtain ⟨i, a, ee, mm, hrs, _, _, hne, _⟩ := hbd
    have HFN := hid (fine_any r mb b i ee a mm wc hrs)
    have hk : (ee == 0) = false := by simpa using hne
    rw [hk] at HFN
    have d0 : wc.cell? ⟨d, 0, none⟩ = some (.int .i64 (x0 : Int)) := HD.out.cell 0
    have z0 : wc.cell? ⟨h + 1, 0, none⟩ = some (.int .i64 0) := HZ.out.cell 0
    have y0 := HZ.out.froz 0
    have d1 : wc.cell? ⟨d, 1, none⟩ = some (.int .i64 (x1 : Int)) := HD.out.cell 1
    have z1 : wc.cell? ⟨h + 1, 1, none⟩ = some (.int .i64 0) := HZ.out.cell 1
    have y1 := HZ.out.froz 1
    have d2 : wc.cell? ⟨d, 2, none⟩ = some (.bool false) := HD.out.cell 2
    have z2 : wc.cell? ⟨h + 1, 2, none⟩ = some (.bool false) := HZ.out.cell 2
    have y2 := HZ.out.froz 2
    have d3 : wc.cell? ⟨d, 3, none⟩ = some (.int .i64 0) := HD.out.cell 3
    have z3 : wc.cell? ⟨h + 1, 3, none⟩ = some (.int .i64 0) := HZ.out.cell 3
    have y3 := HZ.out.froz 3
    have d4 : wc.cell? ⟨d, 4, none⟩ = some (.int .i64 0) := HD.out.cell 4
    have z4 : wc.cell? ⟨h + 1, 4, none⟩ = some (.int .i64 0) := HZ.out.cell 4
    have y4 := HZ.out.froz 4
    clear hrs hne hk
    go_wp2_with (go_at_call 38; refine HFN.out.mono ?_; rintro e' w' ⟨rfl, rfl⟩)
    have HRS : Hid (Blk (((((w'.setCell ⟨h + 1, 0, none⟩ (.int .i64 (x0 : Int))).setCell ⟨h + 1, 1, none⟩ (.int .i64 (x1 : Int))).setCell ⟨h + 1, 2, none⟩ (.bool false)).setCell ⟨h + 1, 3, none⟩ (.int .i64 0)).setCell ⟨h + 1, 4, none⟩ (.int .i64 0)) (h + 1) [.int .i64 (x0 : Int), .int .i64 (x1 : Int), .bool false, .int .i64 0, .int .i64 0] 35) := hid (((((HZ.out.set 0 _).set 1 _).set 2 _).set 3 _).set 4 _)
    have hHL : w.heap.size ≤ h + 1 := by have := HH.out; omega
    have hoz : Only [r, mb] w (((((w'.setCell ⟨h + 1, 0, none⟩ (.int .i64 (x0 : Int))).setCell ⟨h + 1, 1, none⟩ (.int .i64 (x1 : Int))).setCell ⟨h + 1, 2, none⟩ (.bool false)).setCell ⟨h + 1, 3, none⟩ (.int .i64 0)).setCell ⟨h + 1, 4, none⟩ (.int .i64 0)) := ((((HO.out.set (p := ⟨h + 1, 0, none⟩) (.inr hHL) _).set (p := ⟨h + 1, 1, none⟩) (.inr hHL) _).set (p := ⟨h + 1, 2, none⟩) (.inr hHL) _).set (p := ⟨h + 1, 3, none⟩) (.inr hHL) _).set (p := ⟨h + 1, 4, none⟩) (.inr hHL) _
    refine bodyPost_ret (results40 HRS.out rfl) rfl (PairPost.of _ _ _ _ _ { s with ps := s.ps ++ [((x0 : Int), (x1 : Int), false, 0, 0)], nu := 0, nx := if s.ps.length + 1 < s.np then 10 else 15 } hoz (kp_of HBK.out hoz (by intro q hq; simpa using hq)) ?_ rfl rfl rfl rfl rfl rfl rfl)
    exact (((((TA.set (.inr HBD.out) HZ.out (by decide) (by decide) _).set (HZ.out.set 0 _) (by decide) (by decide) _).set ((HZ.out.set 0 _).set 1 _) (by decide) (by decide) _).set (((HZ.out.set 0 _).set 1 _).set 2 _) (by decide) (by decide) _).set ((((HZ.out.set 0 _).set 1 _).set 2 _).set 3 _) (by decide) (by decide) _)
end Go.Proofs.Ytdinlaoimpoolaa
