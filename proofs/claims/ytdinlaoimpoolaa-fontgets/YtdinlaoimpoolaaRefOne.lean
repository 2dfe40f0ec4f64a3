/- The reference reads a glyph. -/
import Derived.Test.YtdinlaoimpoolaaRefOne0
import Derived.Deep.Cut
import Derived.Deep.CutRange
namespace Go.Proofs.Ytdinlaoimpoolaa
open Go.RowKit

theorem fits5 {s : St} (hx : s.nx = 5) (n : Nat) : fits (read s (sz s.nx) n) n = (decide (widthI n ≠ 0) && decide ((aheadG s.gs).1 < (n : Int))) := by
  have : (read s (sz s.nx) n).nx = 5 := hx
  unfold fits
  rw [this]
  rfl
theorem fits678 {s : St} (hx : s.nx = 6 ∨ s.nx = 7 ∨ s.nx = 8) (n : Nat) : fits (read s (sz s.nx) n) n = decide (n ≤ 16384) := by
  have h2 : (read s (sz s.nx) n).nx = s.nx := rfl
  unfold fits
  rw [h2]
  rcases hx with h | h | h <;> simp only [h]
theorem Sl.glyph' {W : World} {ad : Option Addr} {n : Nat} {gs : List Gl} (h : Sl W ad n (gs.flatMap cg)) (hn : gs.length = n) {i : Nat} {g : Gl} (hi : gs[i]? = some g) : ∃ b off, ad = some ⟨b, off, none⟩ ∧ b < W.heap.size ∧ GAt W b (off + i * 4) g := by
  subst hn
  exact h.glyph hi
theorem widthI_nn (r : Int) : 0 ≤ widthI r := by unfold widthI; repeat' split <;> try decide
/-- the four numbers of a glyph, one behind the other -/
def g1 (s : St) (x0 : Nat) : St := nxt (read s (sz s.nx) x0)
theorem g1_5 {s : St} (hx : s.nx = 5) (hnu : s.nu = 0 ∨ True) (x0 : Nat) : (g1 s x0).nx = 6 ∧ (g1 s x0).gs = s.gs ∧ (g1 s x0).em = s.em ∧ (g1 s x0).ng = s.ng ∧ (g1 s x0).ps = s.ps := by
  obtain ⟨nx, nu, bs, sm, em, gs, ps, ng, np, g, p⟩ := s
  simp only at hx
  subst hx
  exact ⟨rfl, rfl, rfl, rfl, rfl⟩
theorem g1_67 {s : St} (hx : s.nx = 6 ∨ s.nx = 7) (x : Nat) : (g1 s x).nx = s.nx + 1 := by
  obtain ⟨nx, nu, bs, sm, em, gs, ps, ng, np, g, p⟩ := s
  simp only at hx
  rcases hx with rfl | rfl <;> rfl
theorem TA.set {r mb : Nat} {b : ByteArray} {RES : M × ((Int × Nat) ⊕ St)} {s : St} {W : World} (h : TA r mb b RES s W) {c o : Nat} {xs : List Value} {t : TypeId} (hc : Blk W c xs t) (h1 : t ≠ 87) (h2 : t ≠ 74) (v : Value) : TA r mb b RES s (W.setCell ⟨c, o, none⟩ v) := by
  rcases h with ⟨i, m, h⟩ | ⟨i, a, e, m, hb, hx⟩
  · exact .inl ⟨i, m, h.rs.set hc h1 h2 v, h.ok, h.le, h.at_, h.sm, h.nu, h.bs⟩
  · exact .inr ⟨i, a, e, m, hb.set hc h1 h2 v, hx⟩
set_option maxRecDepth 100000 in
set_option maxHeartbeats 16000000 in
theorem one_any (r mb : Nat) (b : ByteArray) (RES : M × ((Int × Nat) ⊕ St)) (s : St) (em : Int) (gs : List Gl) (ag ap : Option Addr) (ca np cb : Nat) (w : World) (hx5 : s.nx = 5) (hgs : s.gs = gs) (hgl : gs.length ≤ 1024) (hsz : b.size ≤ 9223372036854775807) (hT : TA r mb b RES s w)
    (hsg : ∀ X, Only [r, mb] w X → Sl X ag gs.length (gs.flatMap cg)) :
    Calls Try.prog 39 #[.pointer (some ⟨r, 0, none⟩), .agg #[.int .i64 em, .slice ag gs.length ca, .slice ap np cb]] w fun e w' => ∃ x0 x1 x2 x3 : Nat, e = .returned (.agg #[.int .i64 x0, .int .i64 x1, .int .i64 x2, .int .i64 x3]) ∧ Only [r, mb] w w' ∧ Kp w w' ∧ TA r mb b RES (g1 (g1 (g1 (g1 s x0) x1) x2) x3) w' ∧ x1 < 4294967296 := by
  have HX5 : Hid (s.nx ≠ 15) := hid (by omega)
  have HX := hid hx5
  have HGS := hid hgs
  have HSZ := hid hsz
  have HSG := hid hsg
  obtain ⟨n, hn⟩ : ∃ n, gs.length = n := ⟨_, rfl⟩
  have HN := hid hn
  rw [hn] at hgl HSG ⊢
  have hgl' : (n : Int) ≤ 1024 := by omega
  obtain ⟨h, hh⟩ : ∃ h, w.heap.size = h := ⟨_, rfl⟩
  have HH := hid hh
  have HF1 : Hid (Blk ((w.alloc (.cells #[.int .i64 em, .slice ag n ca, .slice ap np cb] 25)).alloc (.cells #[.int .i64 0, .int .i64 0, .int .i64 0, .int .i64 0] 33)) h [.int .i64 em, .slice ag n ca, .slice ap np cb] 25) := hid ((Blk.new w _ 25 hh).alloc _)
  have HZ1 : Hid (Blk ((w.alloc (.cells #[.int .i64 em, .slice ag n ca, .slice ap np cb] 25)).alloc (.cells #[.int .i64 0, .int .i64 0, .int .i64 0, .int .i64 0] 33)) (h + 1) [.int .i64 0, .int .i64 0, .int .i64 0, .int .i64 0] 33) := hid (Blk.new (w.alloc _) _ 33 (by simp [hh]))
  have hb1 : Below w.heap.size w ((w.alloc (.cells #[.int .i64 em, .slice ag n ca, .slice ap np cb] 25)).alloc (.cells #[.int .i64 0, .int .i64 0, .int .i64 0, .int .i64 0] 33)) := Below.al (Below.al (Below.refl _ w) _) _
  have HT1 := hid (hT.below hb1)
  have HO1 : Hid (Only [r, mb] w _) := hid ((Only.ofBelow hb1).mono (by simp))
  have HBK : Hid ((∃ xs, Blk w r xs 87) ∧ ∃ ys, Blk w mb ys 74) := hid hT.blocks
  clear hx5 hgs hgl hsz hT hsg hn hb1
  go_enter Try.func39, Try.ntmps39
  go_wp2_with fail
  obtain ⟨W1, hW1⟩ : ∃ W1, ((w.alloc (.cells #[.int .i64 em, .slice ag n ca, .slice ap np cb] 25)).alloc (.cells #[.int .i64 0, .int .i64 0, .int .i64 0, .int .i64 0] 33)) = W1 := ⟨_, rfl⟩
  rw [hW1] at HF1 HZ1 HT1 HO1 ⊢
  rw [show (3 : Int) = ((3 : Nat) : Int) from rfl]
  refine (number_k r mb b RES s 3 (by rw [HX.out]; rfl) (by rw [HX.out]; decide) HSZ.out W1 HT1.out).mono ?_
  rintro e W2 ⟨x0, rfl, hx0, ho2, hk2, ht2⟩
  have HX0 := hid hx0
  have hx0i : (x0 : Int) ≤ 4294967295 := by omega
  have HO2 := hid (HO1.out.trans ho2)
  have HF2 := hid (hk2 _ _ _ (by decide) (by decide) HF1.out)
  have HZ2 := hid (hk2 _ _ _ (by decide) (by decide) HZ1.out)
  have HT2 := hid ht2
  clear hx0 ho2 hk2 ht2 hW1 HF1 HZ1 HT1 HO1
  have c1 : (W2.alloc (.cells #[.int .i64 (x0 : Int), .int .i64 0, .int .i64 0, .int .i64 0] 33)).cell? ⟨h, 1, none⟩ = some (.slice ag n ca) := (HF2.out.alloc _).cell 1
  go_wp2_with fail
  obtain ⟨d, hd⟩ : ∃ d, W2.heap.size = d := ⟨_, rfl⟩
  have hb3 : Below W2.heap.size W2 (W2.alloc (.cells #[.int .i64 (x0 : Int), .int .i64 0, .int .i64 0, .int .i64 0] 33)) := Below.al (Below.refl _ W2) _
  have HO3 := hid (HO2.out.trans ((Only.ofBelow hb3).mono (by simp)) : Only [r, mb] w _)
  have HF3 := hid (HF2.out.below hb3)
  have HZ3 := hid (HZ2.out.below hb3)
  have HT3 := hid (HT2.out.below hb3)
  have HD3 : Hid (Blk (W2.alloc (.cells #[.int .i64 (x0 : Int), .int .i64 0, .int .i64 0, .int .i64 0] 33)) d [.int .i64 (x0 : Int), .int .i64 0, .int .i64 0, .int .i64 0] 33) := hid (Blk.new W2 _ 33 hd)
  obtain ⟨W3, hW3⟩ : ∃ W3, W2.alloc (.cells #[.int .i64 (x0 : Int), .int .i64 0, .int .i64 0, .int .i64 0] 33) = W3 := ⟨_, rfl⟩
  rw [hW3] at HO3 HF3 HZ3 HT3 HD3 ⊢
  have HDL : Hid (h + 1 < d ∧ w.heap.size ≤ d) := hid (by have h1 := HZ2.out.lt; have h2 := HO2.out.size; omega)
  rw [hd] at ⊢
  clear hW3 hd hb3 HO2 HF2 HZ2 HT2 c1
  obtain ⟨fs, hfs⟩ : ∃ fs, [Value.int .i64 em, .slice ag n ca, .slice ap np cb] = fs := ⟨_, rfl⟩
  have HFS := hid hfs
  clear hfs

  go_cut [] from 13 to 34 (fun wx => OneSt w r mb b RES s x0 true h d [Value.int .i64 em, .slice ag n ca, .slice ap np cb] 1 wx)
  case first =>
    have h5 := fits5 HX.out x0
    have hw0 := widthI_nn (x0 : Int)
    rcases hb1 : decide (0 < widthI (x0 : Int)) with _ | _
    · have HB1 := hid hb1
      have HOK : Hid (false = fits (read s (sz s.nx) x0) x0) := hid (by
        rw [h5]
        have : ¬ 0 < widthI (x0 : Int) := by simpa using hb1
        have h2 : widthI (x0 : Int) = 0 := by omega
        simp [h2])
      have HST0 : Hid (OneSt w r mb b RES s x0 false h d [Value.int .i64 em, .slice ag n ca, .slice ap np cb] 0 W3.drew) := hid ⟨HO3.out.drew, HF3.out, HD3.out, HZ3.out, by rw [if_pos rfl]; exact ⟨HT3.out.below (Below.refl _ _).drew, fun _ => HOK.out⟩⟩
      clear h5 hw0 hb1
      refine effects (ci := fun i => ([21] : List Nat).getD i 0) (val := fun i => ([some (.pointer (some ⟨r, 0, none⟩)), some (.pointer (some ⟨d, 0, none⟩)), some (.int .i64 (x0 : Int)), some (.int .i64 (widthI x0)), some (.bool false), some (.bool false), some (undef), some (undef), some (undef), some (undef), some (undef), some (undef), some (undef), some (undef), some (undef), some (undef), some (undef), some (undef), some (undef), some (undef), some (.bool false), none] : List (Option Value)).getD i none) (fun j X _ => OneSt w r mb b RES s x0 false h d [Value.int .i64 em, .slice ag n ca, .slice ap np cb] j X) undef
        (by kernel_rfl) (by kernel_rfl) (by kernel_rfl) (show 0 < 1 by decide) HST0.out (by kernel_rfl) (by kernel_rfl) ?hcall ?hp ⟨_, _, rfl, rfl⟩ [13, 14, 15, 16, 17, 18, 19, 20, 21, 22, 23, 24, 25, 26, 27, 28, 29, 30, 31, 32, 33, 34] (by kernel_rfl) ?he
      case hcall =>
        intro j hj
        obtain rfl : j = 0 := by omega
        refine ⟨_, rfl, fun h0 => absurd h0 (by decide), fun a X v hSt hr hh _ _ K hK => ?_⟩
        refine wpOp_one rfl rfl (wp_enter (run_call37 rfl ((hh 0 _ (by kernel_rfl) rfl).only rfl rfl) ((hh 20 _ (by kernel_rfl) rfl).only rfl rfl)) ((oneSt_must hSt HX5.out HSZ.out).mono ?_))
        rintro e X' ⟨rfl, hS'⟩
        exact ⟨_, rfl, hK _ _ hS'⟩
      case hp =>
        intro i o ho
        rcases i with _ | _ | _ | _ | _ | _ | _ | _ | _ | _ | _ | _ | _ | _ | _ | _ | _ | _ | _ | _ | _ | _ | i
        · cases ho
          refine .inr ⟨_, rfl, fun j v' a X hj hSt hr hh => ?_⟩
          obtain ⟨hO, hH, hD, hZ, _⟩ := hSt
          exact does_run rfl rfl (run_move rfl (eval_tmp (hr.2.2 0 (by kernel_rfl))))
        · cases ho
          refine .inr ⟨_, rfl, fun j v' a X hj hSt hr hh => ?_⟩
          obtain ⟨hO, hH, hD, hZ, _⟩ := hSt
          exact does_run rfl rfl (run_fa33_0 rfl (eval_tmp (hr.2.2 5 (by kernel_rfl))))
        · cases ho
          refine .inr ⟨_, rfl, fun j v' a X hj hSt hr hh => ?_⟩
          obtain ⟨hO, hH, hD, hZ, _⟩ := hSt
          exact does_run rfl rfl (run_load3 rfl ((hh 1 _ (by kernel_rfl) rfl).only rfl rfl) (hD.cell 0))
        · cases ho
          refine .inr ⟨_, rfl, fun j v' a X hj hSt hr hh => ?_⟩
          obtain ⟨hO, hH, hD, hZ, _⟩ := hSt
          exact does_call rfl rfl (run_call61 rfl ((hh 2 _ (by kernel_rfl) rfl).only rfl rfl)) (refwidth_any _ _)
        · cases ho
          refine .inr ⟨_, rfl, fun j v' a X hj hSt hr hh => ?_⟩
          obtain ⟨hO, hH, hD, hZ, _⟩ := hSt
          exact does_run rfl rfl (run_gtr rfl ((hh 3 _ (by kernel_rfl) rfl).only rfl rfl) rfl HB1.out)
        · cases ho
          refine .inr ⟨_, rfl, fun j v' a X hj hSt hr hh => ?_⟩
          obtain ⟨hO, hH, hD, hZ, _⟩ := hSt
          exact does_run rfl rfl (run_move rfl ((hh 4 _ (by kernel_rfl) rfl).only rfl rfl))
        · cases ho
          refine .inr ⟨_, rfl, fun j v' a X hj hSt hr hh => ?_⟩
          obtain ⟨hO, hH, hD, hZ, _⟩ := hSt
          exact does_off rfl rfl rfl (hh 5 _ (by kernel_rfl) rfl) rfl
        · cases ho
          refine .inr ⟨_, rfl, fun j v' a X hj hSt hr hh => ?_⟩
          obtain ⟨hO, hH, hD, hZ, _⟩ := hSt
          exact does_off rfl rfl rfl (hh 5 _ (by kernel_rfl) rfl) rfl
        · cases ho
          refine .inr ⟨_, rfl, fun j v' a X hj hSt hr hh => ?_⟩
          obtain ⟨hO, hH, hD, hZ, _⟩ := hSt
          exact does_off rfl rfl rfl (hh 5 _ (by kernel_rfl) rfl) rfl
        · cases ho
          refine .inr ⟨_, rfl, fun j v' a X hj hSt hr hh => ?_⟩
          obtain ⟨hO, hH, hD, hZ, _⟩ := hSt
          exact does_undef rfl rfl rfl (hh 8 _ (by kernel_rfl) rfl)
        · cases ho
          refine .inr ⟨_, rfl, fun j v' a X hj hSt hr hh => ?_⟩
          obtain ⟨hO, hH, hD, hZ, _⟩ := hSt
          exact does_undef rfl rfl rfl (hh 8 _ (by kernel_rfl) rfl)
        · cases ho
          refine .inr ⟨_, rfl, fun j v' a X hj hSt hr hh => ?_⟩
          obtain ⟨hO, hH, hD, hZ, _⟩ := hSt
          exact does_undef rfl rfl rfl (hh 8 _ (by kernel_rfl) rfl)
        · cases ho
          refine .inr ⟨_, rfl, fun j v' a X hj hSt hr hh => ?_⟩
          obtain ⟨hO, hH, hD, hZ, _⟩ := hSt
          exact does_undef rfl rfl rfl (hh 8 _ (by kernel_rfl) rfl)
        · cases ho
          refine .inr ⟨_, rfl, fun j v' a X hj hSt hr hh => ?_⟩
          obtain ⟨hO, hH, hD, hZ, _⟩ := hSt
          exact does_undef rfl rfl rfl (hh 8 _ (by kernel_rfl) rfl)
        · cases ho
          refine .inr ⟨_, rfl, fun j v' a X hj hSt hr hh => ?_⟩
          obtain ⟨hO, hH, hD, hZ, _⟩ := hSt
          exact does_undef rfl rfl rfl (hh 8 _ (by kernel_rfl) rfl)
        · cases ho
          refine .inr ⟨_, rfl, fun j v' a X hj hSt hr hh => ?_⟩
          obtain ⟨hO, hH, hD, hZ, _⟩ := hSt
          exact does_undef rfl rfl rfl (hh 8 _ (by kernel_rfl) rfl)
        · cases ho
          refine .inr ⟨_, rfl, fun j v' a X hj hSt hr hh => ?_⟩
          obtain ⟨hO, hH, hD, hZ, _⟩ := hSt
          exact does_undef rfl rfl rfl (hh 8 _ (by kernel_rfl) rfl)
        · cases ho
          refine .inr ⟨_, rfl, fun j v' a X hj hSt hr hh => ?_⟩
          obtain ⟨hO, hH, hD, hZ, _⟩ := hSt
          exact does_undef rfl rfl rfl (hh 8 _ (by kernel_rfl) rfl)
        · cases ho
          refine .inr ⟨_, rfl, fun j v' a X hj hSt hr hh => ?_⟩
          obtain ⟨hO, hH, hD, hZ, _⟩ := hSt
          exact does_undef rfl rfl rfl (hh 8 _ (by kernel_rfl) rfl)
        · cases ho
          refine .inr ⟨_, rfl, fun j v' a X hj hSt hr hh => ?_⟩
          obtain ⟨hO, hH, hD, hZ, _⟩ := hSt
          exact does_off rfl rfl rfl (hh 5 _ (by kernel_rfl) rfl) rfl
        · cases ho
          refine .inr ⟨_, rfl, fun j v' a X hj hSt hr hh => ?_⟩
          obtain ⟨hO, hH, hD, hZ, _⟩ := hSt
          exact does_run rfl rfl (run_pick rfl ((hh 5 _ (by kernel_rfl) rfl).only rfl rfl) ((hh 19 _ (by kernel_rfl) rfl).only rfl rfl) rfl)
        · exact .inl ⟨0, by decide, rfl⟩
        · cases ho
      case he =>
        intro us wx _ hS
        simp only [List.foldl_cons, List.foldl_nil, List.setIfInBounds_toArray, List.set_cons_succ, List.set_cons_zero]
        generalize us 13 = u13; generalize us 14 = u14; generalize us 15 = u15; generalize us 16 = u16; generalize us 17 = u17; generalize us 18 = u18; generalize us 19 = u19; generalize us 20 = u20; generalize us 21 = u21; generalize us 22 = u22; generalize us 23 = u23; generalize us 24 = u24; generalize us 25 = u25; generalize us 26 = u26; generalize us 27 = u27; generalize us 28 = u28; generalize us 29 = u29; generalize us 30 = u30; generalize us 31 = u31; generalize us 32 = u32; generalize us 33 = u33; generalize us 34 = u34
        go_wp2_with fail
        go_meet
        exact hS
    · have HB1 := hid hb1
      have hwne : widthI (x0 : Int) ≠ 0 := by have : 0 < widthI (x0 : Int) := by simpa using hb1
                                              omega
      rcases hb2 : ((n : Int) == 0) with _ | _
      · have HB2 := hid hb2
        obtain ⟨k, hk⟩ : ∃ k, n = k + 1 := ⟨n - 1, by have : ¬ (n : Int) = 0 := by simpa using hb2
                                                      omega⟩
        subst hk
        obtain ⟨l, hl⟩ := some_at (xs := gs) (i := k) (by rw [HN.out]; exact Nat.lt_succ_self k)
        obtain ⟨bg, off, rfl, _, hga⟩ := Sl.glyph' (HSG.out w (Only.refl _ _)) HN.out hl
        have hah : (aheadG s.gs).1 = l.1 := by
          rw [HGS.out]
          unfold aheadG
          rw [List.getLast?_eq_getElem?, HN.out, Nat.add_sub_cancel, hl]; rfl
        have HKL : Hid (k ≤ 1000000) := hid (by omega)
        obtain ⟨l0, l1, l2, l3⟩ := l
        have HLC : Hid (∀ X, Only [r, mb] w X → X.cell? ⟨bg, off + k * 4, none⟩ = some (.int .i64 l0)) := hid fun X hX => by
          obtain ⟨b2, off2, e, _, hga2⟩ := Sl.glyph' (HSG.out X hX) HN.out hl
          cases e
          exact hga2.c0
        obtain ⟨b3, hb3⟩ : ∃ b3, decide (l0 < (x0 : Int)) = b3 := ⟨_, rfl⟩
        have HB3 := hid hb3
        have HOK : Hid (b3 = fits (read s (sz s.nx) x0) x0) := hid (by
          rw [h5, hah, ← hb3]
          simp [hwne])
        have HST0 : Hid (OneSt w r mb b RES s x0 b3 h d [Value.int .i64 em, .slice (some ⟨bg, off, none⟩) (k + 1) ca, .slice ap np cb] 0 W3.drew) := hid ⟨HO3.out.drew, HF3.out, HD3.out, HZ3.out, by rw [if_pos rfl]; exact ⟨HT3.out.below (Below.refl _ _).drew, fun _ => HOK.out⟩⟩
        clear h5 hw0 hb1 hb2 hb3 hl hga hah hwne
        refine effects (ci := fun i => ([21] : List Nat).getD i 0) (val := fun i => ([some (.pointer (some ⟨r, 0, none⟩)), some (.pointer (some ⟨d, 0, none⟩)), some (.int .i64 (x0 : Int)), some (.int .i64 (widthI x0)), some (.bool true), some (.bool true), some (.int .i64 ((k + 1 : Nat) : Int)), some (.bool false), some (.bool false), some (.pointer (some ⟨d, 0, none⟩)), some (.int .i64 (x0 : Int)), some (.pointer (some ⟨h, 1, none⟩)), some (.slice (some ⟨bg, off, none⟩) (k + 1) ca), some (.int .i64 ((k + 1 : Nat) : Int)), some (.int .i64 (k : Int)), some (.pointer (some ⟨bg, off + k * 4, none⟩)), some (.pointer (some ⟨bg, off + k * 4, none⟩)), some (.int .i64 l0), some (.bool b3), some (.bool b3), some (.bool b3), none] : List (Option Value)).getD i none) (fun j X _ => OneSt w r mb b RES s x0 b3 h d [Value.int .i64 em, .slice (some ⟨bg, off, none⟩) (k + 1) ca, .slice ap np cb] j X) undef
          (by kernel_rfl) (by kernel_rfl) (by kernel_rfl) (show 0 < 1 by decide) HST0.out (by kernel_rfl) (by kernel_rfl) ?hcall ?hp ⟨_, _, rfl, rfl⟩ [13, 14, 15, 16, 17, 18, 19, 20, 21, 22, 23, 24, 25, 26, 27, 28, 29, 30, 31, 32, 33, 34] (by kernel_rfl) ?he
        case hcall =>
          intro j hj
          obtain rfl : j = 0 := by omega
          refine ⟨_, rfl, fun h0 => absurd h0 (by decide), fun a X v hSt hr hh _ _ K hK => ?_⟩
          refine wpOp_one rfl rfl (wp_enter (run_call37 rfl ((hh 0 _ (by kernel_rfl) rfl).only rfl rfl) ((hh 20 _ (by kernel_rfl) rfl).only rfl rfl)) ((oneSt_must hSt HX5.out HSZ.out).mono ?_))
          rintro e X' ⟨rfl, hS'⟩
          exact ⟨_, rfl, hK _ _ hS'⟩
        case hp =>
          intro i o ho
          rcases i with _ | _ | _ | _ | _ | _ | _ | _ | _ | _ | _ | _ | _ | _ | _ | _ | _ | _ | _ | _ | _ | _ | i
          · cases ho
            refine .inr ⟨_, rfl, fun j v' a X hj hSt hr hh => ?_⟩
            obtain ⟨hO, hH, hD, hZ, _⟩ := hSt
            exact does_run rfl rfl (run_move rfl (eval_tmp (hr.2.2 0 (by kernel_rfl))))
          · cases ho
            refine .inr ⟨_, rfl, fun j v' a X hj hSt hr hh => ?_⟩
            obtain ⟨hO, hH, hD, hZ, _⟩ := hSt
            exact does_run rfl rfl (run_fa33_0 rfl (eval_tmp (hr.2.2 5 (by kernel_rfl))))
          · cases ho
            refine .inr ⟨_, rfl, fun j v' a X hj hSt hr hh => ?_⟩
            obtain ⟨hO, hH, hD, hZ, _⟩ := hSt
            exact does_run rfl rfl (run_load3 rfl ((hh 1 _ (by kernel_rfl) rfl).only rfl rfl) (hD.cell 0))
          · cases ho
            refine .inr ⟨_, rfl, fun j v' a X hj hSt hr hh => ?_⟩
            obtain ⟨hO, hH, hD, hZ, _⟩ := hSt
            exact does_call rfl rfl (run_call61 rfl ((hh 2 _ (by kernel_rfl) rfl).only rfl rfl)) (refwidth_any _ _)
          · cases ho
            refine .inr ⟨_, rfl, fun j v' a X hj hSt hr hh => ?_⟩
            obtain ⟨hO, hH, hD, hZ, _⟩ := hSt
            exact does_run rfl rfl (run_gtr rfl ((hh 3 _ (by kernel_rfl) rfl).only rfl rfl) rfl HB1.out)
          · cases ho
            refine .inr ⟨_, rfl, fun j v' a X hj hSt hr hh => ?_⟩
            obtain ⟨hO, hH, hD, hZ, _⟩ := hSt
            exact does_run rfl rfl (run_move rfl ((hh 4 _ (by kernel_rfl) rfl).only rfl rfl))
          · cases ho
            refine .inr ⟨_, rfl, fun j v' a X hj hSt hr hh => ?_⟩
            obtain ⟨hO, hH, hD, hZ, _⟩ := hSt
            exact does_on rfl rfl rfl (hh 5 _ (by kernel_rfl) rfl) (run_move rfl (eval_tmp (hr.2.2 6 (by kernel_rfl))))
          · cases ho
            refine .inr ⟨_, rfl, fun j v' a X hj hSt hr hh => ?_⟩
            obtain ⟨hO, hH, hD, hZ, _⟩ := hSt
            exact does_on rfl rfl rfl (hh 5 _ (by kernel_rfl) rfl) (run_eql rfl ((hh 6 _ (by kernel_rfl) rfl).only rfl rfl) rfl HB2.out)
          · cases ho
            refine .inr ⟨_, rfl, fun j v' a X hj hSt hr hh => ?_⟩
            obtain ⟨hO, hH, hD, hZ, _⟩ := hSt
            exact does_on rfl rfl rfl (hh 5 _ (by kernel_rfl) rfl) (run_move rfl ((hh 7 _ (by kernel_rfl) rfl).only rfl rfl))
          · cases ho
            refine .inr ⟨_, rfl, fun j v' a X hj hSt hr hh => ?_⟩
            obtain ⟨hO, hH, hD, hZ, _⟩ := hSt
            exact does_on rfl rfl rfl (hh 8 _ (by kernel_rfl) rfl) (run_fa33_0 rfl (eval_tmp (hr.2.2 5 (by kernel_rfl))))
          · cases ho
            refine .inr ⟨_, rfl, fun j v' a X hj hSt hr hh => ?_⟩
            obtain ⟨hO, hH, hD, hZ, _⟩ := hSt
            exact does_on rfl rfl rfl (hh 8 _ (by kernel_rfl) rfl) (run_load3 rfl ((hh 9 _ (by kernel_rfl) rfl).only rfl rfl) (hD.cell 0))
          · cases ho
            refine .inr ⟨_, rfl, fun j v' a X hj hSt hr hh => ?_⟩
            obtain ⟨hO, hH, hD, hZ, _⟩ := hSt
            exact does_on rfl rfl rfl (hh 8 _ (by kernel_rfl) rfl) (run_fa25_1 rfl (eval_tmp (hr.2.2 3 (by kernel_rfl))))
          · cases ho
            refine .inr ⟨_, rfl, fun j v' a X hj hSt hr hh => ?_⟩
            obtain ⟨hO, hH, hD, hZ, _⟩ := hSt
            exact does_on rfl rfl rfl (hh 8 _ (by kernel_rfl) rfl) (run_load22 rfl ((hh 11 _ (by kernel_rfl) rfl).only rfl rfl) (hH.cell 1))
          · cases ho
            refine .inr ⟨_, rfl, fun j v' a X hj hSt hr hh => ?_⟩
            obtain ⟨hO, hH, hD, hZ, _⟩ := hSt
            exact does_on rfl rfl rfl (hh 8 _ (by kernel_rfl) rfl) (run_move rfl (eval_tmp (hr.2.2 6 (by kernel_rfl))))
          · cases ho
            refine .inr ⟨_, rfl, fun j v' a X hj hSt hr hh => ?_⟩
            obtain ⟨hO, hH, hD, hZ, _⟩ := hSt
            exact does_on rfl rfl rfl (hh 8 _ (by kernel_rfl) rfl) (run_sub1 rfl ((hh 13 _ (by kernel_rfl) rfl).only rfl rfl) HKL.out)
          · cases ho
            refine .inr ⟨_, rfl, fun j v' a X hj hSt hr hh => ?_⟩
            obtain ⟨hO, hH, hD, hZ, _⟩ := hSt
            exact does_on rfl rfl rfl (hh 8 _ (by kernel_rfl) rfl) (run_ix22 rfl ((hh 12 _ (by kernel_rfl) rfl).only rfl rfl) ((hh 14 _ (by kernel_rfl) rfl).only rfl rfl) (Nat.lt_succ_self k))
          · cases ho
            refine .inr ⟨_, rfl, fun j v' a X hj hSt hr hh => ?_⟩
            obtain ⟨hO, hH, hD, hZ, _⟩ := hSt
            exact does_on rfl rfl rfl (hh 8 _ (by kernel_rfl) rfl) (run_at33 rfl ((hh 15 _ (by kernel_rfl) rfl).only rfl rfl))
          · cases ho
            refine .inr ⟨_, rfl, fun j v' a X hj hSt hr hh => ?_⟩
            obtain ⟨hO, hH, hD, hZ, _⟩ := hSt
            exact does_on rfl rfl rfl (hh 8 _ (by kernel_rfl) rfl) (run_load3 rfl ((hh 16 _ (by kernel_rfl) rfl).only rfl rfl) (HLC.out X hO))
          · cases ho
            refine .inr ⟨_, rfl, fun j v' a X hj hSt hr hh => ?_⟩
            obtain ⟨hO, hH, hD, hZ, _⟩ := hSt
            exact does_on rfl rfl rfl (hh 8 _ (by kernel_rfl) rfl) (run_gtr rfl ((hh 10 _ (by kernel_rfl) rfl).only rfl rfl) ((hh 17 _ (by kernel_rfl) rfl).only rfl rfl) HB3.out)
          · cases ho
            refine .inr ⟨_, rfl, fun j v' a X hj hSt hr hh => ?_⟩
            obtain ⟨hO, hH, hD, hZ, _⟩ := hSt
            exact does_on rfl rfl rfl (hh 5 _ (by kernel_rfl) rfl) (run_pick rfl ((hh 8 _ (by kernel_rfl) rfl).only rfl rfl) rfl ((hh 18 _ (by kernel_rfl) rfl).only rfl rfl))
          · cases ho
            refine .inr ⟨_, rfl, fun j v' a X hj hSt hr hh => ?_⟩
            obtain ⟨hO, hH, hD, hZ, _⟩ := hSt
            exact does_run rfl rfl (run_pick rfl ((hh 5 _ (by kernel_rfl) rfl).only rfl rfl) ((hh 19 _ (by kernel_rfl) rfl).only rfl rfl) rfl)
          · exact .inl ⟨0, by decide, rfl⟩
          · cases ho
        case he =>
          intro us wx _ hS
          simp only [List.foldl_cons, List.foldl_nil, List.setIfInBounds_toArray, List.set_cons_succ, List.set_cons_zero]
          generalize us 13 = u13; generalize us 14 = u14; generalize us 15 = u15; generalize us 16 = u16; generalize us 17 = u17; generalize us 18 = u18; generalize us 19 = u19; generalize us 20 = u20; generalize us 21 = u21; generalize us 22 = u22; generalize us 23 = u23; generalize us 24 = u24; generalize us 25 = u25; generalize us 26 = u26; generalize us 27 = u27; generalize us 28 = u28; generalize us 29 = u29; generalize us 30 = u30; generalize us 31 = u31; generalize us 32 = u32; generalize us 33 = u33; generalize us 34 = u34
          go_wp2_with fail
          go_meet
          exact hS
      · have HB2 := hid hb2
        have HOK : Hid (true = fits (read s (sz s.nx) x0) x0) := hid (by
          have h0 : n = 0 := by have : (n : Int) = 0 := by simpa using hb2
                                omega
          have h1 : gs = [] := List.eq_nil_of_length_eq_zero (by rw [HN.out]; exact h0)
          have h3 : (aheadG ([] : List Gl)).1 = -1 := rfl
          have h4 : (-1 : Int) < (x0 : Int) := by omega
          rw [h5, HGS.out, h1, h3]
          simp [hwne, h4])
        have HST0 : Hid (OneSt w r mb b RES s x0 true h d [Value.int .i64 em, .slice ag n ca, .slice ap np cb] 0 W3.drew) := hid ⟨HO3.out.drew, HF3.out, HD3.out, HZ3.out, by rw [if_pos rfl]; exact ⟨HT3.out.below (Below.refl _ _).drew, fun _ => HOK.out⟩⟩
        clear h5 hw0 hb1 hb2 hwne
        refine effects (ci := fun i => ([21] : List Nat).getD i 0) (val := fun i => ([some (.pointer (some ⟨r, 0, none⟩)), some (.pointer (some ⟨d, 0, none⟩)), some (.int .i64 (x0 : Int)), some (.int .i64 (widthI x0)), some (.bool true), some (.bool true), some (.int .i64 (n : Int)), some (.bool true), some (.bool true), some (undef), some (undef), some (undef), some (undef), some (undef), some (undef), some (undef), some (undef), some (undef), some (undef), some (.bool true), some (.bool true), none] : List (Option Value)).getD i none) (fun j X _ => OneSt w r mb b RES s x0 true h d [Value.int .i64 em, .slice ag n ca, .slice ap np cb] j X) undef
          (by kernel_rfl) (by kernel_rfl) (by kernel_rfl) (show 0 < 1 by decide) HST0.out (by kernel_rfl) (by kernel_rfl) ?hcall ?hp ⟨_, _, rfl, rfl⟩ [13, 14, 15, 16, 17, 18, 19, 20, 21, 22, 23, 24, 25, 26, 27, 28, 29, 30, 31, 32, 33, 34] (by kernel_rfl) ?he
        case hcall =>
          intro j hj
          obtain rfl : j = 0 := by omega
          refine ⟨_, rfl, fun h0 => absurd h0 (by decide), fun a X v hSt hr hh _ _ K hK => ?_⟩
          refine wpOp_one rfl rfl (wp_enter (run_call37 rfl ((hh 0 _ (by kernel_rfl) rfl).only rfl rfl) ((hh 20 _ (by kernel_rfl) rfl).only rfl rfl)) ((oneSt_must hSt HX5.out HSZ.out).mono ?_))
          rintro e X' ⟨rfl, hS'⟩
          exact ⟨_, rfl, hK _ _ hS'⟩
        case hp =>
          intro i o ho
          rcases i with _ | _ | _ | _ | _ | _ | _ | _ | _ | _ | _ | _ | _ | _ | _ | _ | _ | _ | _ | _ | _ | _ | i
          · cases ho
            refine .inr ⟨_, rfl, fun j v' a X hj hSt hr hh => ?_⟩
            obtain ⟨hO, hH, hD, hZ, _⟩ := hSt
            exact does_run rfl rfl (run_move rfl (eval_tmp (hr.2.2 0 (by kernel_rfl))))
          · cases ho
            refine .inr ⟨_, rfl, fun j v' a X hj hSt hr hh => ?_⟩
            obtain ⟨hO, hH, hD, hZ, _⟩ := hSt
            exact does_run rfl rfl (run_fa33_0 rfl (eval_tmp (hr.2.2 5 (by kernel_rfl))))
          · cases ho
            refine .inr ⟨_, rfl, fun j v' a X hj hSt hr hh => ?_⟩
            obtain ⟨hO, hH, hD, hZ, _⟩ := hSt
            exact does_run rfl rfl (run_load3 rfl ((hh 1 _ (by kernel_rfl) rfl).only rfl rfl) (hD.cell 0))
          · cases ho
            refine .inr ⟨_, rfl, fun j v' a X hj hSt hr hh => ?_⟩
            obtain ⟨hO, hH, hD, hZ, _⟩ := hSt
            exact does_call rfl rfl (run_call61 rfl ((hh 2 _ (by kernel_rfl) rfl).only rfl rfl)) (refwidth_any _ _)
          · cases ho
            refine .inr ⟨_, rfl, fun j v' a X hj hSt hr hh => ?_⟩
            obtain ⟨hO, hH, hD, hZ, _⟩ := hSt
            exact does_run rfl rfl (run_gtr rfl ((hh 3 _ (by kernel_rfl) rfl).only rfl rfl) rfl HB1.out)
          · cases ho
            refine .inr ⟨_, rfl, fun j v' a X hj hSt hr hh => ?_⟩
            obtain ⟨hO, hH, hD, hZ, _⟩ := hSt
            exact does_run rfl rfl (run_move rfl ((hh 4 _ (by kernel_rfl) rfl).only rfl rfl))
          · cases ho
            refine .inr ⟨_, rfl, fun j v' a X hj hSt hr hh => ?_⟩
            obtain ⟨hO, hH, hD, hZ, _⟩ := hSt
            exact does_on rfl rfl rfl (hh 5 _ (by kernel_rfl) rfl) (run_move rfl (eval_tmp (hr.2.2 6 (by kernel_rfl))))
          · cases ho
            refine .inr ⟨_, rfl, fun j v' a X hj hSt hr hh => ?_⟩
            obtain ⟨hO, hH, hD, hZ, _⟩ := hSt
            exact does_on rfl rfl rfl (hh 5 _ (by kernel_rfl) rfl) (run_eql rfl ((hh 6 _ (by kernel_rfl) rfl).only rfl rfl) rfl HB2.out)
          · cases ho
            refine .inr ⟨_, rfl, fun j v' a X hj hSt hr hh => ?_⟩
            obtain ⟨hO, hH, hD, hZ, _⟩ := hSt
            exact does_on rfl rfl rfl (hh 5 _ (by kernel_rfl) rfl) (run_move rfl ((hh 7 _ (by kernel_rfl) rfl).only rfl rfl))
          · cases ho
            refine .inr ⟨_, rfl, fun j v' a X hj hSt hr hh => ?_⟩
            obtain ⟨hO, hH, hD, hZ, _⟩ := hSt
            exact does_off rfl rfl rfl (hh 8 _ (by kernel_rfl) rfl) rfl
          · cases ho
            refine .inr ⟨_, rfl, fun j v' a X hj hSt hr hh => ?_⟩
            obtain ⟨hO, hH, hD, hZ, _⟩ := hSt
            exact does_off rfl rfl rfl (hh 8 _ (by kernel_rfl) rfl) rfl
          · cases ho
            refine .inr ⟨_, rfl, fun j v' a X hj hSt hr hh => ?_⟩
            obtain ⟨hO, hH, hD, hZ, _⟩ := hSt
            exact does_off rfl rfl rfl (hh 8 _ (by kernel_rfl) rfl) rfl
          · cases ho
            refine .inr ⟨_, rfl, fun j v' a X hj hSt hr hh => ?_⟩
            obtain ⟨hO, hH, hD, hZ, _⟩ := hSt
            exact does_off rfl rfl rfl (hh 8 _ (by kernel_rfl) rfl) rfl
          · cases ho
            refine .inr ⟨_, rfl, fun j v' a X hj hSt hr hh => ?_⟩
            obtain ⟨hO, hH, hD, hZ, _⟩ := hSt
            exact does_off rfl rfl rfl (hh 8 _ (by kernel_rfl) rfl) rfl
          · cases ho
            refine .inr ⟨_, rfl, fun j v' a X hj hSt hr hh => ?_⟩
            obtain ⟨hO, hH, hD, hZ, _⟩ := hSt
            exact does_off rfl rfl rfl (hh 8 _ (by kernel_rfl) rfl) rfl
          · cases ho
            refine .inr ⟨_, rfl, fun j v' a X hj hSt hr hh => ?_⟩
            obtain ⟨hO, hH, hD, hZ, _⟩ := hSt
            exact does_off rfl rfl rfl (hh 8 _ (by kernel_rfl) rfl) rfl
          · cases ho
            refine .inr ⟨_, rfl, fun j v' a X hj hSt hr hh => ?_⟩
            obtain ⟨hO, hH, hD, hZ, _⟩ := hSt
            exact does_off rfl rfl rfl (hh 8 _ (by kernel_rfl) rfl) rfl
          · cases ho
            refine .inr ⟨_, rfl, fun j v' a X hj hSt hr hh => ?_⟩
            obtain ⟨hO, hH, hD, hZ, _⟩ := hSt
            exact does_off rfl rfl rfl (hh 8 _ (by kernel_rfl) rfl) rfl
          · cases ho
            refine .inr ⟨_, rfl, fun j v' a X hj hSt hr hh => ?_⟩
            obtain ⟨hO, hH, hD, hZ, _⟩ := hSt
            exact does_off rfl rfl rfl (hh 8 _ (by kernel_rfl) rfl) rfl
          · cases ho
            refine .inr ⟨_, rfl, fun j v' a X hj hSt hr hh => ?_⟩
            obtain ⟨hO, hH, hD, hZ, _⟩ := hSt
            exact does_on rfl rfl rfl (hh 5 _ (by kernel_rfl) rfl) (run_pick rfl ((hh 8 _ (by kernel_rfl) rfl).only rfl rfl) rfl ((hh 18 _ (by kernel_rfl) rfl).only rfl rfl))
          · cases ho
            refine .inr ⟨_, rfl, fun j v' a X hj hSt hr hh => ?_⟩
            obtain ⟨hO, hH, hD, hZ, _⟩ := hSt
            exact does_run rfl rfl (run_pick rfl ((hh 5 _ (by kernel_rfl) rfl).only rfl rfl) ((hh 19 _ (by kernel_rfl) rfl).only rfl rfl) rfl)
          · exact .inl ⟨0, by decide, rfl⟩
          · cases ho
        case he =>
          intro us wx _ hS
          simp only [List.foldl_cons, List.foldl_nil, List.setIfInBounds_toArray, List.set_cons_succ, List.set_cons_zero]
          generalize us 13 = u13; generalize us 14 = u14; generalize us 15 = u15; generalize us 16 = u16; generalize us 17 = u17; generalize us 18 = u18; generalize us 19 = u19; generalize us 20 = u20; generalize us 21 = u21; generalize us 22 = u22; generalize us 23 = u23; generalize us 24 = u24; generalize us 25 = u25; generalize us 26 = u26; generalize us 27 = u27; generalize us 28 = u28; generalize us 29 = u29; generalize us 30 = u30; generalize us 31 = u31; generalize us 32 = u32; generalize us 33 = u33; generalize us 34 = u34
          go_wp2_with fail
          go_meet
          exact hS
  case rest =>
  obtain ⟨o4, _, hd4, hz4, t4⟩ := hcut
  rw [if_neg (by decide)] at t4
  have HS1 : Hid ((g1 s x0).nx = 6) := hid (g1_5 HX.out (.inr trivial) x0).1
  have t4' : TA r mb b RES (g1 s x0) wc := t4
  have HO := hid o4
  have HD0 := hid hd4
  have HZ := hid hz4
  have HT := hid t4'
  clear o4 hd4 hz4 t4 t4' HO3 HF3 HZ3 HT3 HD3
  go_wp2_with fail
  rw [show (2 : Int) = ((2 : Nat) : Int) from rfl]
  refine (number_k r mb b RES (g1 s x0) 2 (by rw [HS1.out]; rfl) (by rw [HS1.out]; decide) HSZ.out wc HT.out).mono ?_
  rintro e Wa1 ⟨x1, rfl, hx1, hoa, hka, hta⟩
  have HX1 := hid hx1
  have hy1 : (x1 : Int) ≤ 4294967295 := by omega
  have HOa := hid (HO.out.trans hoa)
  have HDa := hid (hka _ _ _ (by decide) (by decide) HD0.out)
  have HZa := hid (hka _ _ _ (by decide) (by decide) HZ.out)
  have HTa := hid hta
  have c1 : Wa1.cell? ⟨d, 1, none⟩ = some (.int .i64 0) := HDa.out.cell 1
  have f1 := HDa.out.froz 1
  clear hx1 hoa hka hta HO HZ HT
  go_wp2_with fail
  have HDb : Hid (Blk (Wa1.setCell ⟨d, 1, none⟩ (.int .i64 (x1 : Int))) d [.int .i64 (x0 : Int), .int .i64 (x1 : Int), .int .i64 0, .int .i64 0] 33) := hid (HDa.out.set 1 _)
  have HZb : Hid (Blk (Wa1.setCell ⟨d, 1, none⟩ (.int .i64 (x1 : Int))) (h + 1) [.int .i64 0, .int .i64 0, .int .i64 0, .int .i64 0] 33) := hid (oth HZa.out (by have := HDL.out; omega))
  have HTb : Hid (TP r mb b RES (g1 s x0) x1 (Wa1.setCell ⟨d, 1, none⟩ (.int .i64 (x1 : Int)))) := hid (HTa.out.set HDa.out (by decide) (by decide) _)
  have HOb : Hid (Only [r, mb] w (Wa1.setCell ⟨d, 1, none⟩ (.int .i64 (x1 : Int)))) := hid (HOa.out.set (p := ⟨d, 1, none⟩) (.inr HDL.out.2) _)
  refine (must_k r mb b RES (g1 s x0) x1 _ _ (by rw [HS1.out]; decide) HSZ.out HTb.out (fun _ => by rw [fits678 (by rw [HS1.out]; decide)]; exact decide_eq_decide.2 (by omega))).mono ?_
  rintro e Wm1 ⟨rfl, hom, hkm, htm⟩
  have HO := hid (HOb.out.trans hom)
  have HD1 := hid (hkm _ _ _ (by decide) (by decide) HDb.out)
  have HZ := hid (hkm _ _ _ (by decide) (by decide) HZb.out)
  have HT : Hid (TA r mb b RES (g1 (g1 s x0) x1) Wm1) := hid htm
  have HS2 : Hid ((g1 (g1 s x0) x1).nx = 7) := hid (g1_67 (by rw [HS1.out]; decide) x1 |>.trans (by rw [HS1.out]))
  clear hom hkm htm HOa HDa HZa HTa HDb HZb HTb HOb c1 f1
  go_wp2_with fail
  rw [show (2 : Int) = ((2 : Nat) : Int) from rfl]
  refine (number_k r mb b RES (g1 (g1 s x0) x1) 2 (by rw [HS2.out]; rfl) (by rw [HS2.out]; decide) HSZ.out Wm1 HT.out).mono ?_
  rintro e Wa2 ⟨x2, rfl, hx2, hoa, hka, hta⟩
  have HX2 := hid hx2
  have hy2 : (x2 : Int) ≤ 4294967295 := by omega
  have HOa := hid (HO.out.trans hoa)
  have HDa := hid (hka _ _ _ (by decide) (by decide) HD1.out)
  have HZa := hid (hka _ _ _ (by decide) (by decide) HZ.out)
  have HTa := hid hta
  have c1 : Wa2.cell? ⟨d, 2, none⟩ = some (.int .i64 0) := HDa.out.cell 2
  have f1 := HDa.out.froz 2
  clear hx2 hoa hka hta HO HZ HT
  go_wp2_with fail
  have HDb : Hid (Blk (Wa2.setCell ⟨d, 2, none⟩ (.int .i64 (x2 : Int))) d [.int .i64 (x0 : Int), .int .i64 (x1 : Int), .int .i64 (x2 : Int), .int .i64 0] 33) := hid (HDa.out.set 2 _)
  have HZb : Hid (Blk (Wa2.setCell ⟨d, 2, none⟩ (.int .i64 (x2 : Int))) (h + 1) [.int .i64 0, .int .i64 0, .int .i64 0, .int .i64 0] 33) := hid (oth HZa.out (by have := HDL.out; omega))
  have HTb : Hid (TP r mb b RES (g1 (g1 s x0) x1) x2 (Wa2.setCell ⟨d, 2, none⟩ (.int .i64 (x2 : Int)))) := hid (HTa.out.set HDa.out (by decide) (by decide) _)
  have HOb : Hid (Only [r, mb] w (Wa2.setCell ⟨d, 2, none⟩ (.int .i64 (x2 : Int)))) := hid (HOa.out.set (p := ⟨d, 2, none⟩) (.inr HDL.out.2) _)
  refine (must_k r mb b RES (g1 (g1 s x0) x1) x2 _ _ (by rw [HS2.out]; decide) HSZ.out HTb.out (fun _ => by rw [fits678 (by rw [HS2.out]; decide)]; exact decide_eq_decide.2 (by omega))).mono ?_
  rintro e Wm2 ⟨rfl, hom, hkm, htm⟩
  have HO := hid (HOb.out.trans hom)
  have HD2 := hid (hkm _ _ _ (by decide) (by decide) HDb.out)
  have HZ := hid (hkm _ _ _ (by decide) (by decide) HZb.out)
  have HT : Hid (TA r mb b RES (g1 (g1 (g1 s x0) x1) x2) Wm2) := hid htm
  have HS3 : Hid ((g1 (g1 (g1 s x0) x1) x2).nx = 8) := hid (g1_67 (by rw [HS2.out]; decide) x2 |>.trans (by rw [HS2.out]))
  clear hom hkm htm HOa HDa HZa HTa HDb HZb HTb HOb c1 f1
  go_wp2_with fail
  rw [show (2 : Int) = ((2 : Nat) : Int) from rfl]
  refine (number_k r mb b RES (g1 (g1 (g1 s x0) x1) x2) 2 (by rw [HS3.out]; rfl) (by rw [HS3.out]; decide) HSZ.out Wm2 HT.out).mono ?_
  rintro e Wa3 ⟨x3, rfl, hx3, hoa, hka, hta⟩
  have HX3 := hid hx3
  have hy3 : (x3 : Int) ≤ 4294967295 := by omega
  have HOa := hid (HO.out.trans hoa)
  have HDa := hid (hka _ _ _ (by decide) (by decide) HD2.out)
  have HZa := hid (hka _ _ _ (by decide) (by decide) HZ.out)
  have HTa := hid hta
  have c1 : Wa3.cell? ⟨d, 3, none⟩ = some (.int .i64 0) := HDa.out.cell 3
  have f1 := HDa.out.froz 3
  clear hx3 hoa hka hta HO HZ HT
  go_wp2_with fail
  have HDb : Hid (Blk (Wa3.setCell ⟨d, 3, none⟩ (.int .i64 (x3 : Int))) d [.int .i64 (x0 : Int), .int .i64 (x1 : Int), .int .i64 (x2 : Int), .int .i64 (x3 : Int)] 33) := hid (HDa.out.set 3 _)
  have HZb : Hid (Blk (Wa3.setCell ⟨d, 3, none⟩ (.int .i64 (x3 : Int))) (h + 1) [.int .i64 0, .int .i64 0, .int .i64 0, .int .i64 0] 33) := hid (oth HZa.out (by have := HDL.out; omega))
  have HTb : Hid (TP r mb b RES (g1 (g1 (g1 s x0) x1) x2) x3 (Wa3.setCell ⟨d, 3, none⟩ (.int .i64 (x3 : Int)))) := hid (HTa.out.set HDa.out (by decide) (by decide) _)
  have HOb : Hid (Only [r, mb] w (Wa3.setCell ⟨d, 3, none⟩ (.int .i64 (x3 : Int)))) := hid (HOa.out.set (p := ⟨d, 3, none⟩) (.inr HDL.out.2) _)
  refine (must_k r mb b RES (g1 (g1 (g1 s x0) x1) x2) x3 _ _ (by rw [HS3.out]; decide) HSZ.out HTb.out (fun _ => by rw [fits678 (by rw [HS3.out]; decide)]; exact decide_eq_decide.2 (by omega))).mono ?_
  rintro e Wm3 ⟨rfl, hom, hkm, htm⟩
  have HO := hid (HOb.out.trans hom)
  have HD3 := hid (hkm _ _ _ (by decide) (by decide) HDb.out)
  have HZ := hid (hkm _ _ _ (by decide) (by decide) HZb.out)
  have HT : Hid (TA r mb b RES (g1 (g1 (g1 (g1 s x0) x1) x2) x3) Wm3) := hid htm
  clear hom hkm htm HOa HDa HZa HTa HDb HZb HTb HOb c1 f1
  have c0 : Wm3.cell? ⟨d, 0, none⟩ = some (.int .i64 (x0 : Int)) := HD3.out.cell 0
  have c1 : Wm3.cell? ⟨d, 1, none⟩ = some (.int .i64 (x1 : Int)) := HD3.out.cell 1
  have c2 : Wm3.cell? ⟨d, 2, none⟩ = some (.int .i64 (x2 : Int)) := HD3.out.cell 2
  have c3 : Wm3.cell? ⟨d, 3, none⟩ = some (.int .i64 (x3 : Int)) := HD3.out.cell 3
  have z0 : Wm3.cell? ⟨h + 1, 0, none⟩ = some (.int .i64 0) := HZ.out.cell 0
  have z1 : Wm3.cell? ⟨h + 1, 1, none⟩ = some (.int .i64 0) := HZ.out.cell 1
  have z2 : Wm3.cell? ⟨h + 1, 2, none⟩ = some (.int .i64 0) := HZ.out.cell 2
  have z3 : Wm3.cell? ⟨h + 1, 3, none⟩ = some (.int .i64 0) := HZ.out.cell 3
  have y0 := HZ.out.froz 0
  have y1 := HZ.out.froz 1
  have y2 := HZ.out.froz 2
  have y3 := HZ.out.froz 3
  go_wp2_with fail
  have HRS : Hid (Blk ((((Wm3.setCell ⟨h + 1, 0, none⟩ (.int .i64 (x0 : Int))).setCell ⟨h + 1, 1, none⟩ (.int .i64 (x1 : Int))).setCell ⟨h + 1, 2, none⟩ (.int .i64 (x2 : Int))).setCell ⟨h + 1, 3, none⟩ (.int .i64 (x3 : Int))) (h + 1) [.int .i64 (x0 : Int), .int .i64 (x1 : Int), .int .i64 (x2 : Int), .int .i64 (x3 : Int)] 33) := hid ((((HZ.out.set 0 _).set 1 _).set 2 _).set 3 _)
  have hHL : w.heap.size ≤ h + 1 := by have := HH.out; omega
  have hoz : Only [r, mb] w ((((Wm3.setCell ⟨h + 1, 0, none⟩ (.int .i64 (x0 : Int))).setCell ⟨h + 1, 1, none⟩ (.int .i64 (x1 : Int))).setCell ⟨h + 1, 2, none⟩ (.int .i64 (x2 : Int))).setCell ⟨h + 1, 3, none⟩ (.int .i64 (x3 : Int))) := (((HO.out.set (p := ⟨h + 1, 0, none⟩) (.inr hHL) _).set (p := ⟨h + 1, 1, none⟩) (.inr hHL) _).set (p := ⟨h + 1, 2, none⟩) (.inr hHL) _).set (p := ⟨h + 1, 3, none⟩) (.inr hHL) _
  refine bodyPost_ret (results39 HRS.out rfl) rfl ⟨x0, x1, x2, x3, rfl, hoz, kp_of HBK.out hoz (by intro q hq; simpa using hq), ?_, HX1.out⟩
  exact (((HT.out.set HZ.out (by decide) (by decide) _).set (HZ.out.set 0 _) (by decide) (by decide) _).set ((HZ.out.set 0 _).set 1 _) (by decide) (by decide) _).set (((HZ.out.set 0 _).set 1 _).set 2 _) (by decide) (by decide) _
end Go.Proofs.Ytdinlaoimpoolaa
