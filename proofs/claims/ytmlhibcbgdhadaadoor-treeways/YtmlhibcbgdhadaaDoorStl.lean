/- A lent document is as it was. -/
import Derived.Test.YtmlhibcbgdhadaaDoorLm
namespace Go.Proofs.YtmlhibcbgdhadaaDoor
open Go.RowKit

set_option maxRecDepth 100000 in
set_option maxHeartbeats 8000000 in
theorem still_any {xs : List (Nd × Value)} {ad : Option Addr} {cap B C xb ab ac : Nat} {vc : Value} {ps : List Ln} (w : World) (hNL : NL w B ad xs) (hf : ∀ x ∈ xs, x.1.chs.length ≤ 2147483647) (hl : xs.length ≤ 2147483647) (hL : LM w C xb ab ac vc ps) (hps : ps.map (·.1) = nds xs) :
    Calls Tryd.prog 16 #[.pointer (some ⟨xb, 0, none⟩), .slice ad xs.length cap] w fun e w' => e = .returned (.bool true) ∧ Only [] w w' := by
  have hpl : ps.length = xs.length := by have := congrArg List.length hps; simpa using this
  have HNL := hid hNL
  have HF := hid hf
  have HL := hid hL
  have HPS := hid hps
  obtain ⟨n, hn⟩ : ∃ n, xs.length = n := ⟨_, rfl⟩
  have HN := hid hn
  rw [hn] at hl hpl ⊢
  have HPL := hid hpl
  have hst := hL.stop
  have hbx := hL.bx
  have c0 := Blk.cell hbx 0
  rw [hpl] at hst c0
  simp only [List.getElem?_cons_zero] at c0
  have hs1 := hst.2
  have hn0 : (0 : Int) ≤ (n : Int) := by omega
  clear hNL hf hL hps hn hbx hst
  go_enter Tryd.func16, Tryd.ntmps16
  go_wp2_with fail
  clear c0 hs1
  go_loopw [5] (fun i wr => ∃ k : Nat, i = .int .i64 k ∧ k ≤ n ∧ Only [] w wr) (fun i _ => n - (RowKit.intOf i).toNat)
  case atStart => exact ⟨0, rfl, by omega, Only.refl _ _⟩
  case round =>
    obtain ⟨k, rfl, hk, ho⟩ := hrel
    by_cases hlt : k < n
    · obtain ⟨x, hx⟩ := some_at (xs := xs) (i := k) (by rw [HN.out]; exact hlt)
      obtain ⟨p, hp⟩ := some_at (xs := ps) (i := k) (by rw [HPL.out]; exact hlt)
      have hpx : p.1 = x.1 := by
        have h1 : (ps.map (·.1))[k]? = some p.1 := by rw [List.getElem?_map, hp]; rfl
        rw [HPS.out, nds_get hx] at h1
        exact (Option.some.inj h1).symm
      obtain ⟨xn, xv⟩ := x
      obtain ⟨pn, cb, cc⟩ := p
      dsimp only at hpx
      subst hpx
      have hna := HNL.out.still ho
      have hLm := HL.out.still ho
      obtain ⟨xa, xc, hxv, hxs⟩ := hna.cv _ (List.mem_of_getElem? hx)
      dsimp only at hxv hxs
      subst hxv
      obtain ⟨lb, lo, rfl, -, lbw, ca⟩ := hna.at_ hx
      obtain ⟨vb, vcp, hvc, vbw, hcv, cbw, hcs, hcc⟩ := hLm.kept hp
      obtain ⟨ab2, ao2, hae, -, abw, cy⟩ := hLm.nl.at_ (show (ps.map ly)[k]? = some (ly (pn, cb, cc)) by rw [List.getElem?_map, hp]; rfl)
      injection hae with hae
      injection hae with hae hae2
      subst hae hae2
      have hcy := (hLm.nl.cv (ly (pn, cb, cc)) (List.mem_map_of_mem (List.mem_of_getElem? hp)))
      obtain ⟨ya, yc, hyv, hys⟩ := hcy
      have hlx := HF.out _ (List.mem_of_getElem? hx)
      dsimp only [ly, lc] at hcv hcs hcc cy hyv hys hlx
      subst hvc
      have hbxb := hLm.bx
      rw [HPL.out] at hbxb
      have bb := hbxb.lt
      have c0 := Blk.cell hbxb 0
      have c1 := Blk.cell hbxb 1
      simp only [List.getElem?_cons_zero, List.getElem?_cons_succ] at c0 c1
      injection hyv with hyv1 hyv2 hyv3
      subst hyv1 hyv3
      have HSN := hid (fun W (o : Only [] wr W) => sameNode_eq (xc := cc) (yc := xc) pn W (hys.keep o (by simp)) (hxs.sl.b.keep o (by simp)) (by omega))
      have HSC := hid (fun W (o : Only [] wr W) => sameChars_eq (ac := cc) (bc := xc) W (hys.keep o (by simp)) (hxs.sl.b.keep o (by simp)) (by omega))
      unfold ndc at HSN
      dsimp only at HSN
      obtain ⟨xm, hxm⟩ : ∃ xm, pn.chs.length = xm := ⟨_, rfl⟩
      rw [hxm] at HSN HSC hcv hcs hcc cy ca hlx
      have g0 : ∀ d os, (behind wr d os).cell? ⟨xb, 0, none⟩ = some _ := fun d os => (cell_behind bb d os).trans c0
      have gy0 : ∀ d os, (behind wr d os).cell? ⟨ab, k * 13, none⟩ = some _ := fun d os => (cell_behind abw d os).trans (by have := cy 0 _ rfl; rwa [Nat.zero_add] at this)
      have gx0 : ∀ d os, (behind wr d os).cell? ⟨lb, lo + k * 13, none⟩ = some _ := fun d os => (cell_behind lbw d os).trans (ca 0 _ rfl)
      have gy1 : ∀ d os, (behind wr d os).cell? ⟨ab, k * 13 + 1, none⟩ = some _ := fun d os => (cell_behind abw d os).trans (by have := cy 1 _ rfl; rwa [Nat.zero_add] at this)
      have gx1 : ∀ d os, (behind wr d os).cell? ⟨lb, lo + k * 13 + 1, none⟩ = some _ := fun d os => (cell_behind lbw d os).trans (ca 1 _ rfl)
      have gy2 : ∀ d os, (behind wr d os).cell? ⟨ab, k * 13 + 2, none⟩ = some _ := fun d os => (cell_behind abw d os).trans (by have := cy 2 _ rfl; rwa [Nat.zero_add] at this)
      have gx2 : ∀ d os, (behind wr d os).cell? ⟨lb, lo + k * 13 + 2, none⟩ = some _ := fun d os => (cell_behind lbw d os).trans (ca 2 _ rfl)
      have gy3 : ∀ d os, (behind wr d os).cell? ⟨ab, k * 13 + 3, none⟩ = some _ := fun d os => (cell_behind abw d os).trans (by have := cy 3 _ rfl; rwa [Nat.zero_add] at this)
      have gx3 : ∀ d os, (behind wr d os).cell? ⟨lb, lo + k * 13 + 3, none⟩ = some _ := fun d os => (cell_behind lbw d os).trans (ca 3 _ rfl)
      have gy4 : ∀ d os, (behind wr d os).cell? ⟨ab, k * 13 + 4, none⟩ = some _ := fun d os => (cell_behind abw d os).trans (by have := cy 4 _ rfl; rwa [Nat.zero_add] at this)
      have gx4 : ∀ d os, (behind wr d os).cell? ⟨lb, lo + k * 13 + 4, none⟩ = some _ := fun d os => (cell_behind lbw d os).trans (ca 4 _ rfl)
      have gy5 : ∀ d os, (behind wr d os).cell? ⟨ab, k * 13 + 5, none⟩ = some _ := fun d os => (cell_behind abw d os).trans (by have := cy 5 _ rfl; rwa [Nat.zero_add] at this)
      have gx5 : ∀ d os, (behind wr d os).cell? ⟨lb, lo + k * 13 + 5, none⟩ = some _ := fun d os => (cell_behind lbw d os).trans (ca 5 _ rfl)
      have gy6 : ∀ d os, (behind wr d os).cell? ⟨ab, k * 13 + 6, none⟩ = some _ := fun d os => (cell_behind abw d os).trans (by have := cy 6 _ rfl; rwa [Nat.zero_add] at this)
      have gx6 : ∀ d os, (behind wr d os).cell? ⟨lb, lo + k * 13 + 6, none⟩ = some _ := fun d os => (cell_behind lbw d os).trans (ca 6 _ rfl)
      have gy7 : ∀ d os, (behind wr d os).cell? ⟨ab, k * 13 + 7, none⟩ = some _ := fun d os => (cell_behind abw d os).trans (by have := cy 7 _ rfl; rwa [Nat.zero_add] at this)
      have gx7 : ∀ d os, (behind wr d os).cell? ⟨lb, lo + k * 13 + 7, none⟩ = some _ := fun d os => (cell_behind lbw d os).trans (ca 7 _ rfl)
      have gy8 : ∀ d os, (behind wr d os).cell? ⟨ab, k * 13 + 8, none⟩ = some _ := fun d os => (cell_behind abw d os).trans (by have := cy 8 _ rfl; rwa [Nat.zero_add] at this)
      have gx8 : ∀ d os, (behind wr d os).cell? ⟨lb, lo + k * 13 + 8, none⟩ = some _ := fun d os => (cell_behind lbw d os).trans (ca 8 _ rfl)
      have gy9 : ∀ d os, (behind wr d os).cell? ⟨ab, k * 13 + 9, none⟩ = some _ := fun d os => (cell_behind abw d os).trans (by have := cy 9 _ rfl; rwa [Nat.zero_add] at this)
      have gx9 : ∀ d os, (behind wr d os).cell? ⟨lb, lo + k * 13 + 9, none⟩ = some _ := fun d os => (cell_behind lbw d os).trans (ca 9 _ rfl)
      have gy10 : ∀ d os, (behind wr d os).cell? ⟨ab, k * 13 + 10, none⟩ = some _ := fun d os => (cell_behind abw d os).trans (by have := cy 10 _ rfl; rwa [Nat.zero_add] at this)
      have gx10 : ∀ d os, (behind wr d os).cell? ⟨lb, lo + k * 13 + 10, none⟩ = some _ := fun d os => (cell_behind lbw d os).trans (ca 10 _ rfl)
      have gy11 : ∀ d os, (behind wr d os).cell? ⟨ab, k * 13 + 11, none⟩ = some _ := fun d os => (cell_behind abw d os).trans (by have := cy 11 _ rfl; rwa [Nat.zero_add] at this)
      have gx11 : ∀ d os, (behind wr d os).cell? ⟨lb, lo + k * 13 + 11, none⟩ = some _ := fun d os => (cell_behind lbw d os).trans (ca 11 _ rfl)
      have gy12 : ∀ d os, (behind wr d os).cell? ⟨ab, k * 13 + 12, none⟩ = some _ := fun d os => (cell_behind abw d os).trans (by have := cy 12 _ rfl; rwa [Nat.zero_add] at this)
      have gx12 : ∀ d os, (behind wr d os).cell? ⟨lb, lo + k * 13 + 12, none⟩ = some _ := fun d os => (cell_behind lbw d os).trans (ca 12 _ rfl)
      have gs : ∀ d os, (behind wr d os).cell? ⟨cb, xm * 3, none⟩ = some (.int .i64 (-77)) := fun d os => (cell_behind cbw d os).trans hcs
      have hkl : (k : Int) < (n : Int) := by omega
      have hkl1 : k < n + 1 := by omega
      have hkl2 : (k : Int) < (n : Int) + 1 := by omega
      have hk0 : (0 : Int) ≤ (k : Int) := by omega
      have hxi : (xm : Int) + 1 - 1 = (xm : Int) := by omega
      have hxc : xm ≤ cc := by omega
      have hxc2 : (xm : Int) ≤ (cc : Int) := by omega
      have hx31 : (xm : Int) ≤ 2147483647 := by omega
      have HO := hid ho
      have HLT := hid hlt
      clear hx hp hna hLm hxs hys cy ca hbxb hlt ho hxm hcs
      go_wp2_with fail
      refine wp_region_behind (by kernel_rfl) (by kernel_rfl) ?_
      repeat (go_big_quiet_step ((first | (go_at_call 38; refine Calls.behind_of ((HSN.out _ (only_behind _ _ _)).mono fun _ _ h => ⟨h.1, h.2⟩)) | (go_at_call 39; refine Calls.behind_of ((HSC.out _ (only_behind _ _ _)).mono fun _ _ h => ⟨h.1, h.2⟩)))))
      refine wpQuiet_nil ?_
      intro _ hw'
      obtain ⟨⟨dq, osq⟩, hw''⟩ := hw'
      subst hw''
      go_wp2_with fail
      go_roundw
      case rel => exact ⟨k + 1, by go_num, HLT.out, HO.out.trans (only_behind _ _ _)⟩
      case measure => have := HLT.out; simp [RowKit.intOf]; omega
    · have hkd : decide (k < n) = false := decide_eq_false hlt
      have HO := hid ho
      clear ho hk
      go_wp2_with fail
      go_ret
      exact ⟨rfl, HO.out⟩
end Go.Proofs.YtmlhibcbgdhadaaDoor
