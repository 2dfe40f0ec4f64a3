/- The reference's Print. -/
import Derived.Test.YtmlhibcbgdhadaaDoorRefG
import Derived.Test.YtmlhibcbgdhadaaDoorRefF
import Derived.Test.YtmlhibcbgdhadaaDoorInjB
import Derived.Lib.AppendStr
namespace Go.Proofs.YtmlhibcbgdhadaaDoor
open Go.RowKit

theorem ri_lit0 (w : World) (B : Nat) (hB : B ≤ w.heap.size) : RI (w.alloc (.cells #[] 3)) B (.slice (some ⟨w.heap.size, 0, none⟩) 0 0) [] := by
  have := World.ownsRow_lit (base := B) (e := 3) (size := 1) w #[] 0 hB (by unfold maxLen; omega) rfl
  show World.ownsRow _ B 3 1 _ 0 []
  simpa using this
def slLen : Value → Nat
  | .slice _ n _ => n
  | _ => 0
theorem ri_pop {w : World} {B oc : Nat} {oa : Option Addr} {L : List Nat} {x m : Nat} (hm : L.length = m) (h : RI w B (.slice oa (m + 1) oc) (L ++ [x])) : RI w B (.slice oa m oc) L := by
  obtain ⟨h1, h2⟩ := h
  refine ⟨by rw [ivs_len, Nat.mul_one], ?_⟩
  rcases h2 with ⟨e, -⟩ | ⟨g, cap, cur, e, hb, hh, hnc, hcm, hs, hx⟩
  · injection e with e1 e2; omega
  · injection e with e1 e2 e3
    refine .inr ⟨g, cap, cur, by rw [e1, e3, ← hm], hb, hh, ?_, hcm, hs, ?_⟩
    · simp at hnc; omega
    · have : (cur.toList.take ((L ++ [x]).length * 1)).take (L.length * 1) = ivs L := by
        rw [hx, ivs_app]
        rw [show L.length * 1 = (ivs L).length by rw [ivs_len, Nat.mul_one], List.take_left']
        rfl
      rw [List.take_take] at this
      rw [← this]
      congr 1
      simp
theorem ri_last {w : World} {B oc : Nat} {oa : Option Addr} {L : List Nat} {x m : Nat} (hm : L.length = m) (h : RI w B (.slice oa (m + 1) oc) (L ++ [x])) : ∃ b off, oa = some ⟨b, off, none⟩ ∧ b < w.heap.size ∧ w.cell? ⟨b, off + m, none⟩ = some (.int .i64 (x : Int)) ∧ m + 1 ≤ oc := by
  obtain ⟨ad, cap, e, hs, -⟩ := row_reads h
  injection e with e1 e2 e3
  obtain ⟨b, off, e4, ha⟩ := hs (by simp)
  refine ⟨b, off, e1.trans e4, ha.1, ha.2 m _ ?_, ?_⟩
  · rw [ivs_app, List.getElem?_append_right (by rw [ivs_len, hm]; exact Nat.le_refl _), ivs_len, hm, Nat.sub_self]; rfl
  · rcases h.2 with ⟨e5, -⟩ | ⟨g, cap', cur, e5, -, -, hnc, -⟩
    · injection e5 with _ e6; omega
    · injection e5 with _ _ e7
      simp at hnc
      omega
theorem rb_grown {w w' : World} {B n n' : Nat} {v v' : Value} {xs ys : List Value} (h : w.ownsRow B 3 1 v n xs) (g : w.grownBy w' v.ownBlock) (k : w.ownsRow B 5 1 v' n' ys) : w'.ownsRow B 5 1 v' n' ys := by
  refine k.kept g ?_
  rcases hb : v'.ownBlock with _ | b
  · exact .inl rfl
  · exact .inr fun q => row_row k h (by decide) hb q.symm
theorem ri_grown {w w' : World} {B n n' : Nat} {v v' : Value} {xs ys : List Value} (h : w.ownsRow B 5 1 v n xs) (g : w.grownBy w' v.ownBlock) (k : w.ownsRow B 3 1 v' n' ys) : w'.ownsRow B 3 1 v' n' ys := by
  refine k.kept g ?_
  rcases hb : v'.ownBlock with _ | b
  · exact .inl rfl
  · exact .inr fun q => row_row k h (by decide) hb q.symm
theorem rb_app {w : World} {B : Nat} {v : Value} {bs : List Nat} {s : ByteArray} {n : Nat} (h : w.ownsRow B 5 1 v n (u8s bs ++ Lib.strCells s)) (hn : n = bs.length + s.size) : RB w B v (bs ++ bl s) := by
  subst hn
  rw [strCells_bl, ← u8s_app] at h
  unfold RB
  rw [List.length_append, bl_length]
  exact h
def ctagS (k : Int) : ByteArray := { data := #[60, 47] } ++ nameS k ++ { data := #[62] }
theorem ctagS_bl (ns : List Nd) (i : Nat) : bl (ctagS (nk ns i)) = ctag ns i := by
  unfold ctagS ctag
  rw [U.bl_append, U.bl_append, nameS_bl]; rfl
theorem ctagS_size (k : Int) : (ctagS k).size ≤ 6 := by
  unfold ctagS
  rw [ByteArray.size_append, ByteArray.size_append]
  have := nameS_size k
  show 2 + _ + 1 ≤ 6
  omega
theorem atr_tol {x : Nd} (h : atr x = true) : (0 ≤ x.tol ∧ x.tol ≤ 10000) ∧ x.font.size ≤ 100 := by
  constructor
  · have ox := okA_of h (j := 6) (by decide)
    unfold okA at ox
    cases hx : hb x (aBit 6)
    · rw [hx] at ox
      have h2 : (x.tol == 0) = true := ox
      simp at h2; omega
    · rw [hx] at ox
      have h2 : tolB x.tol = true := ox
      unfold tolB at h2
      exact of_decide_eq_true h2
  · have ox := okA_of h (j := 2) (by decide)
    unfold okA at ox
    cases hx : hb x (aBit 2)
    · rw [hx] at ox
      have h2 : decide (x.font.size = 0) = true := ox
      have := of_decide_eq_true h2
      omega
    · rw [hx] at ox
      have h2 : nam x.font = true := ox
      unfold nam at h2
      simp at h2
      omega
set_option maxRecDepth 100000 in
set_option maxHeartbeats 16000000 in
theorem refPrint9_c {xs : List (Nd × Value)} {ad : Option Addr} {cap C : Nat} (hlen : xs.length ≤ 4294967296) (hf : ∀ x ∈ xs, Fit x.1) (hsum : sumC (nds xs) (nds xs).length ≤ 4294967296) (w : World) (hNL : NL w C ad xs) :
    Calls Tryd.prog 15 #[.slice ad xs.length cap] w fun e w' => e = .returned (prtV (nds xs)) ∧ Only [] w w' := by
  have HCK := hid (refCheck_c (cap := cap) hlen hf w hNL)
  have HNL := hid hNL
  have hNn : (nds xs).length = xs.length := by simp
  unfold chkV at HCK
  by_cases hd0 : (chkN (nds xs)).2 = 0
  · have hd := chk_doc.1 hd0
    have HP : Hid (prtV (nds xs) = .tuple #[.string (strN (prt (nds xs))), .int .i64 0]) := by show _ = _; unfold prtV; rw [if_pos hd0]
    have hck : chkN (nds xs) = (0, 0) := chk_right hd.1 hd.2.1 hd.2.2
    rw [hck] at HCK
    dsimp only at HCK
    have hN8 : xs.length ≤ 8192 := hNn ▸ hd.1
    have HD := hid hd
    have HF := hid hf
    obtain ⟨N, hN⟩ : ∃ N, xs.length = N := ⟨_, rfl⟩
    have HN := hid hN
    have hbl : ∀ k, k ≤ N → (runP (nds xs) k).2.length ≤ 34359738368 ∧ (runP (nds xs) k).1.length ≤ 8192 := fun k hk => by
      have a := runP_len k (by rw [hNn, hN]; exact hk) (hd.2.2.mono (by rw [hNn, hN]; exact hk))
      have c := sumC_mono (ns := nds xs) (n := k)
      have d := runP_op_len (nds xs) k
      omega
    have HBL := hid hbl
    have HNN : Hid ((nds xs).length = N) := hNn.trans hN
    have HGD : Hid (Gd (nds xs) N) := by have := hd.2.2; rw [hNn, hN] at this; exact this
    rw [hN] at HCK hN8 ⊢
    have hn8 : (N : Int) ≤ 8192 := by omega
    obtain ⟨i5, hi5, z50, z51, z52⟩ := info_parts info5
    obtain ⟨i3, hi3, z30, z31, z32⟩ := info_parts info3
    clear hNL hlen hf hsum hd0 hd hck hN hNn hbl
    go_enter Tryd.func15, Tryd.ntmps15
    go_wp2_with fail
    refine HCK.out.mono ?_
    rintro e w1 ⟨rfl, o1⟩
    have HO1 := hid o1
    clear o1 HCK
    go_wp2_with fail
    go_loopw [6, 7, 8] (fun v6 v7 v8 wr => ∃ (k m oc : Nat) (bv : Value) (oa : Option Addr) (bs L : List Nat), bv = v6 ∧ v7 = .slice oa m oc ∧ v8 = .int .i64 k ∧ k ≤ N ∧ Hid (L.length = m ∧ RB wr w.heap.size bv bs ∧ RI wr w.heap.size (.slice oa m oc) L ∧ bs = (runP (nds xs) k).2 ∧ L.reverse = (runP (nds xs) k).1) ∧ Hid (Only [] w wr)) (fun _ _ v8 _ => N - (RowKit.intOf v8).toNat)
    case atStart =>
      refine ⟨0, 0, 0, _, _, [], [], rfl, rfl, rfl, by omega, ⟨rfl, ?_, ?_, rfl, rfl⟩, (HO1.out.alloc _).alloc _⟩
      · have := World.ownsRow_lit (base := w.heap.size) (e := 5) (size := 1) w1 #[] 0 HO1.out.size (by unfold maxLen; omega) rfl
        refine row_only (L := []) ?_ ((Only.refl [] _).alloc _) (by simp)
        show World.ownsRow _ _ 5 1 _ 0 []
        simpa using this
      · have := ri_lit0 (w1.alloc (.cells #[] 5)) w.heap.size (by have := HO1.out.size; simp; omega)
        simpa using this
    case round =>
      obtain ⟨k, m, oc, bv, oa, bs, L, rfl, rfl, rfl, hk, hst, ho⟩ := hrel
      by_cases hlt : k < N
      · obtain ⟨x, hx⟩ := some_at (xs := xs) (i := k) (by rw [HN.out]; exact hlt)
        have hxm := List.mem_of_getElem? hx
        obtain ⟨xn, xv⟩ := x
        obtain ⟨ca, cc, hcv, hcs⟩ := HNL.out.cv _ hxm
        dsimp only at hcv hcs
        subst hcv
        obtain ⟨b, off, rfl, hbC, hbw, hc⟩ := HNL.out.at_ hx
        have hpx : np (nds xs) k = xn.par := np_of (nds_get hx)
        have hnx : nd (nds xs) k = xn := nd_of (nds_get hx)
        have hfx := HF.out _ hxm
        dsimp only at hfx
        have hok := HGD.out k hlt
        have HAX : Hid (atr xn = true) := by have := ok_atr hok; rw [hnx] at this; exact this
        have HTS : Hid (xn.kind = 4 → (textM xn.chs).isSome = true) := fun h4 => by
          have := (ok_pr hok (by rw [hnx]; exact hfx.has)).text (by rw [hnx]; exact h4)
          rw [hnx] at this; exact this.2
        have HKN : Hid (1 ≤ xn.kind ∧ xn.kind ≤ 5) := by have := plc_kind (ok_plc hok); unfold nk at this; rw [hnx] at this; exact this
        have HCS := hid hcs
        have HBW := hid hbw
        obtain ⟨cm, hcm⟩ : ∃ cm, xn.chs.length = cm := ⟨_, rfl⟩
        have HCM := hid hcm
        rw [hcm] at hc
        have hcm32 : cm ≤ 4294967296 := by rw [← hcm]; exact hfx.chs
        have HC := hid hc
        obtain ⟨p, hp⟩ : ∃ p, xn.par = p := ⟨_, rfl⟩
        have HAT : Hid (∀ i, i < N → ∀ W, Only [] w W → W.cell? ⟨b, off + i * 13, none⟩ = some (.int .i64 (nk (nds xs) i))) := fun i hi W o => by
          obtain ⟨y, hy⟩ := some_at (xs := xs) (i := i) (by rw [HN.out]; exact hi)
          obtain ⟨b', off', e', -, -, hc'⟩ := HNL.out.at_ hy
          cases e'
          have d0 := hc' 0 _ rfl
          simp only [Nat.add_zero] at d0
          rw [nk_of (nds_get hy)]
          exact cell_keep o HBW.out d0
        have HCP : Hid (∀ W, Only [] w W → W.cell? ⟨b, off + k * 13 + 1, none⟩ = some (.int .i64 p)) := fun W o => by
          rw [← hp]; exact cell_keep o HBW.out (HC.out 1 _ rfl)
        have hrun : (runP (nds xs) (k + 1)).2 = (runP (nds xs) k).2 ++ (clos (nds xs) p (runP (nds xs) k).1).2 ++ itemB xn := by
          show (runP (nds xs) k).2 ++ (clos (nds xs) (np (nds xs) k) (runP (nds xs) k).1).2 ++ itemB (nd (nds xs) k) = _
          rw [hpx, hnx, hp]
        have hstk : (runP (nds xs) (k + 1)).1 = if xn.kind = 4 ∨ xn.kind = 5 then (clos (nds xs) p (runP (nds xs) k).1).1 else k :: (clos (nds xs) p (runP (nds xs) k).1).1 := by
          show (if (nk (nds xs) k = 4 ∨ nk (nds xs) k = 5) then (clos (nds xs) (np (nds xs) k) (runP (nds xs) k).1).1 else k :: (clos (nds xs) (np (nds xs) k) (runP (nds xs) k).1).1) = _
          rw [hpx, hp]; unfold nk; rw [hnx]
        obtain ⟨BS, hBS⟩ : ∃ BS, (runP (nds xs) k).2 ++ (clos (nds xs) p (runP (nds xs) k).1).2 = BS := ⟨_, rfl⟩
        obtain ⟨ST, hST⟩ : ∃ ST, (clos (nds xs) p (runP (nds xs) k).1).1 = ST := ⟨_, rfl⟩
        have hel : ∀ i ∈ L, i < N := fun i hi => by
          have := runP_elems k (HGD.out.mono hk) i (by rw [← hst.out.2.2.2.2]; simpa using hi)
          omega
        have hbsl : BS.length ≤ 34359787520 := by
          rw [← hBS, List.length_append]
          have a := HBL.out k hk
          have c := clos_len (nds xs) p (runP (nds xs) k).1
          omega
        rw [hBS] at hrun
        rw [hST] at hstk
        have HRUN := hid hrun
        have HSTK := hid hstk
        have hLL : L.length ≤ 8192 := by have := (HBL.out k hk).2; rw [← hst.out.2.2.2.2, List.length_reverse] at this; exact this
        have HIN : Hid (L.length = m ∧ RB wr w.heap.size bv bs ∧ RI wr w.heap.size (.slice oa m oc) L ∧ bs ++ (clos (nds xs) p L.reverse).2 = BS ∧ (clos (nds xs) p L.reverse).1 = ST ∧ (∀ i ∈ L, i < N) ∧ L.length ≤ 8192) := ⟨hst.out.1, hst.out.2.1, hst.out.2.2.1, by rw [hst.out.2.2.2.2, hst.out.2.2.2.1]; exact hBS, by rw [hst.out.2.2.2.2]; exact hST, hel, hLL⟩
        have hkl : (k : Int) < (N : Int) := by omega
        have hk0 : (0 : Int) ≤ (k : Int) := by omega
        have HLT := hid hlt
        have HXM := hid hxm
        clear hx hcs hc hbC hbw hpx hnx hok hfx hrun hstk hBS hST hel hLL hst hcm hp hlt hxm
        go_wp2_with fail
        go_loopw [6, 7] (fun v6 v7 wr => ∃ (m oc : Nat) (bv : Value) (oa : Option Addr) (bs L : List Nat), bv = v6 ∧ v7 = .slice oa m oc ∧ Hid (L.length = m ∧ RB wr w.heap.size bv bs ∧ RI wr w.heap.size (.slice oa m oc) L ∧ bs ++ (clos (nds xs) p L.reverse).2 = BS ∧ (clos (nds xs) p L.reverse).1 = ST ∧ (∀ i ∈ L, i < N) ∧ L.length ≤ 8192) ∧ Hid (Only [] w wr)) (fun _ v7 _ => slLen v7)
        case atStart => exact ⟨m, oc, _, oa, bs, L, rfl, rfl, HIN.out, ho.out⟩
        case round =>
          clear ho HIN
          obtain ⟨m, oc, bv, oa, bs, L, rfl, rfl, hst, ho⟩ := hrel
          -- what is open: nothing, the Parent, or another one
          have hways : (m = 0 ∧ L.reverse = ST ∧ bs = BS) ∨ (∃ (L' : List Nat) (y q : Nat), m = q + 1 ∧ L'.length = q ∧ L = L' ++ [y] ∧ ((y : Int) = p ∧ L.reverse = ST ∧ bs = BS)) ∨ (∃ (L' : List Nat) (y q : Nat), m = q + 1 ∧ L'.length = q ∧ L = L' ++ [y] ∧ (y : Int) ≠ p ∧ (bs ++ ctag (nds xs) y) ++ (clos (nds xs) p L'.reverse).2 = BS ∧ (clos (nds xs) p L'.reverse).1 = ST) := by
            obtain ⟨h1, -, -, h2, h3, -, -⟩ := hst.out
            rcases List.eq_nil_or_concat L with e | ⟨L', y, e⟩
            · subst e
              refine .inl ⟨h1.symm, ?_, ?_⟩
              · rw [← h3]; rfl
              · rw [← h2]; simp [clos]
            · rw [List.concat_eq_append] at e
              subst e
              rw [List.reverse_append, List.reverse_cons, List.reverse_nil, List.nil_append, List.singleton_append] at h2 h3
              have hq : m = L'.length + 1 := by rw [← h1]; simp
              by_cases hy : (y : Int) = p
              · refine .inr (.inl ⟨L', y, L'.length, hq, rfl, rfl, hy, ?_, ?_⟩)
                · rw [← h3]; unfold clos; rw [if_pos hy]; simp
                · rw [← h2]; unfold clos; rw [if_pos hy]; simp
              · refine .inr (.inr ⟨L', y, L'.length, hq, rfl, rfl, hy, ?_, ?_⟩)
                · rw [← h2]; conv => rhs; unfold clos
                  rw [if_neg hy]; simp
                · rw [← h3]; conv => rhs; unfold clos
                  rw [if_neg hy]
          rcases hways with ⟨hm0, hS, hB⟩ | ⟨L', y, q, hmq, hq, hL, hy, hS, hB⟩ | ⟨L', y, q, hmq, hq, hL, hy, hB, hS⟩
          · subst hm0
            have HLL := hid hst.out.2.2.2.2.2.2
            go_wp2_with fail
            refine wp_region_behind (by kernel_rfl) (by kernel_rfl) ?_
            repeat (go_big_quiet_step (fail))
            refine wpQuiet_nil ?_
            intro _ hw'
            obtain ⟨⟨dq, osq⟩, hw''⟩ := hw'
            subst hw''
            obtain ⟨W2, hW2⟩ : ∃ W2, behind wr dq osq = W2 := ⟨_, rfl⟩
            have o2 : Only [] wr W2 := hW2 ▸ only_behind wr dq osq
            rw [hW2]
            clear hW2
            have HRB : Hid (RB W2 w.heap.size bv bs) := row_only hst.out.2.1 o2 (by simp)
            have HRI : Hid (RI W2 w.heap.size (.slice oa 0 oc) L) := row_only hst.out.2.2.1 o2 (by simp)
            have HLM : Hid (L.length = 0) := hst.out.1
            have HO2 := hid (ho.out.trans o2)

            have HBSE := hid hB
            have HSE := hid hS
            have HBSL : Hid (bs.length ≤ 34359787520) := by show _ ≤ _; rw [hB]; exact hbsl
            have c0 := cell_keep HO2.out HBW.out (HC.out 0 _ rfl)
            try simp only [Nat.add_zero] at c0
            try dsimp only at c0
            clear hst ho hS hB o2
            by_cases h4 : xn.kind = 4
            · obtain ⟨tb, htb⟩ := Option.isSome_iff_exists.1 (HTS.out h4)
              have HIT : Hid (itemB xn = tb) := by show _ = _; unfold itemB; rw [if_pos h4, htb]; rfl
              have HSK : Hid ((runP (nds xs) (k + 1)).1 = ST) := by show _ = _; rw [HSTK.out, if_pos (.inl h4)]
              have HTXc := hid (refText_c (cap := cc) ((HCS.out.keep HO2.out (by simp)).sl) (by rw [HCM.out]; exact hcm32))
              rw [HCM.out, htb] at HTXc
              unfold textV at HTXc
              dsimp only at HTXc
              have htl := textM_len htb
              rw [HCM.out] at htl
              have htlt := textM_lt htb
              have c12 := cell_keep HO2.out HBW.out (HC.out 12 _ rfl)
              dsimp only at c12
              have k4 : (xn.kind == 4) = true := by simp [h4]
              obtain ⟨sx, hsx⟩ : ∃ sx, strN tb = sx := ⟨_, rfl⟩
              have hsz : sx.size ≤ 25769803776 := by rw [← hsx, ← bl_length, bl_strN _ htlt]; omega
              have HSB : Hid (bl sx = tb) := by show _ = _; rw [← hsx]; exact bl_strN _ htlt
              rw [hsx] at HTXc
              clear h4 htb htl htlt hsx
              go_wp2_with fail
              refine HTXc.out.mono ?_
              rintro e w5 ⟨rfl, o5⟩
              have HRB : Hid (RB w5 w.heap.size bv bs) := row_only HRB.out o5 (by simp)
              have HRI : Hid (RI w5 w.heap.size (.slice oa 0 oc) L) := row_only HRI.out o5 (by simp)
              have HO2 := hid (HO2.out.trans o5)
              have hm1 : bs.length + sx.size ≤ maxLen := by have := HBSL.out; unfold maxLen; omega
              have hm2 : bs.length + sx.size ≤ 140737488355328 := by have := HBSL.out; omega
              clear o5 c12 c0
              go_wp2_with (at_builtin; refine Lib.wpList_append_own_string _ rfl _ _ 50 9 rfl w.heap.size 5 i5 Tryd.underlying50 Tryd.underlying9 hi5 z50 z51 z52 bv bs.length (u8s bs) (by rfl) ?qa1 sx (by rfl) hm1 hm2 ?qa2 ?_)
              case qa1 => exact HRB.out
              case qa2 => exact HO2.out.size
              intro v' w6 hown hgrow hnil
              have HG := hid (only_grow (L := []) HO2.out hgrow (fun b hb => .inr (row_ge HRB.out b hb).1))
              have HB6 := hid (rb_app hown (by first | rfl | (rw [ByteArray.size_append, ByteArray.size_append]; rfl)))
              have HI6 : Hid (RI w6 w.heap.size (.slice oa 0 oc) L) := ri_grown HRB.out hgrow HRI.out
              clear hown hgrow hnil
              go_wp2_with fail
              go_roundw
              case rel => exact ⟨k + 1, 0, oc, v', oa, bs ++ bl sx, L, rfl, rfl, by go_num, HLT.out, ⟨HLM.out, HB6.out, HI6.out, by rw [HRUN.out, HIT.out, HSB.out, HBSE.out], by rw [HSK.out, HSE.out]⟩, HG.out⟩
              case measure => have := HLT.out; simp [RowKit.intOf]; omega
            · have k4 : (xn.kind == 4) = false := by simp [h4]
              by_cases h5 : xn.kind = 5
              · have k5 : (xn.kind == 5) = true := by simp [h5]
                have HIT : Hid (itemB xn = [60, 98, 114, 47, 62]) := item_br h5
                have HSK : Hid ((runP (nds xs) (k + 1)).1 = ST) := by show _ = _; rw [HSTK.out, if_pos (.inr h5)]
                have hm1 : bs.length + ({ data := #[60, 98, 114, 47, 62] } : ByteArray).size ≤ maxLen := by have := HBSL.out; unfold maxLen; show _ + 5 ≤ _; omega
                have hm2 : bs.length + ({ data := #[60, 98, 114, 47, 62] } : ByteArray).size ≤ 140737488355328 := by have := HBSL.out; show _ + 5 ≤ _; omega
                clear h4 h5
                go_wp2_with (at_builtin; refine Lib.wpList_append_own_string _ rfl _ _ 50 9 rfl w.heap.size 5 i5 Tryd.underlying50 Tryd.underlying9 hi5 z50 z51 z52 bv bs.length (u8s bs) (by rfl) ?qa1 { data := #[60, 98, 114, 47, 62] } (by rfl) hm1 hm2 ?qa2 ?_)
                case qa1 => exact HRB.out
                case qa2 => exact HO2.out.size
                intro v' w6 hown hgrow hnil
                have HG := hid (only_grow (L := []) HO2.out hgrow (fun b hb => .inr (row_ge HRB.out b hb).1))
                have HB6 := hid (rb_app hown (by first | rfl | (rw [ByteArray.size_append, ByteArray.size_append]; rfl)))
                have HI6 : Hid (RI w6 w.heap.size (.slice oa 0 oc) L) := ri_grown HRB.out hgrow HRI.out
                clear hown hgrow hnil
                go_wp2_with fail
                go_roundw
                case rel => exact ⟨k + 1, 0, oc, v', oa, bs ++ bl { data := #[60, 98, 114, 47, 62] }, L, rfl, rfl, by go_num, HLT.out, ⟨HLM.out, HB6.out, HI6.out, by rw [HRUN.out, HIT.out, HBSE.out]; rfl, by rw [HSK.out, HSE.out]⟩, HG.out⟩
                case measure => have := HLT.out; simp [RowKit.intOf]; omega
              · have k5 : (xn.kind == 5) = false := by simp [h5]
                have HIT : Hid (itemB xn = tagB xn) := item_tag (by have := HKN.out; omega)
                have HSK : Hid ((runP (nds xs) (k + 1)).1 = k :: ST) := by show _ = _; rw [HSTK.out, if_neg (by omega)]
                have hat := atr_tol HAX.out
                have HOP := hid (fun W => refOpen_c (xn, .slice ca cm cc) hat.1 hat.2 W)
                have htl := tagB_len HAX.out
                obtain ⟨sx, hsx⟩ : ∃ sx, tagS xn = sx := ⟨_, rfl⟩
                have HSB : Hid (bl sx = tagB xn) := by show _ = _; rw [← hsx]; exact bl_strN _ (tagB_lt xn)
                have hsz : sx.size ≤ 300 := by rw [← bl_length, HSB.out]; exact htl
                unfold ndc at HOP
                dsimp only at HOP
                rw [hsx] at HOP
                have c1 := cell_keep HO2.out HBW.out (HC.out 1 _ rfl)
                have c2 := cell_keep HO2.out HBW.out (HC.out 2 _ rfl)
                have c3 := cell_keep HO2.out HBW.out (HC.out 3 _ rfl)
                have c4 := cell_keep HO2.out HBW.out (HC.out 4 _ rfl)
                have c5 := cell_keep HO2.out HBW.out (HC.out 5 _ rfl)
                have c6 := cell_keep HO2.out HBW.out (HC.out 6 _ rfl)
                have c7 := cell_keep HO2.out HBW.out (HC.out 7 _ rfl)
                have c8 := cell_keep HO2.out HBW.out (HC.out 8 _ rfl)
                have c9 := cell_keep HO2.out HBW.out (HC.out 9 _ rfl)
                have c10 := cell_keep HO2.out HBW.out (HC.out 10 _ rfl)
                have c11 := cell_keep HO2.out HBW.out (HC.out 11 _ rfl)
                have c12 := cell_keep HO2.out HBW.out (HC.out 12 _ rfl)
                dsimp only at c1 c2 c3 c4 c5 c6 c7 c8 c9 c10 c11 c12
                clear h4 h5 hat htl hsx
                go_wp2_with fail
                refine (HOP.out _).mono ?_
                rintro e w5 ⟨rfl, o5⟩
                have HRB : Hid (RB w5 w.heap.size bv bs) := row_only HRB.out o5 (by simp)
                have HRI : Hid (RI w5 w.heap.size (.slice oa 0 oc) L) := row_only HRI.out o5 (by simp)
                have HO2 := hid (HO2.out.trans o5)
                have hm1 : bs.length + sx.size ≤ maxLen := by have := HBSL.out; unfold maxLen; omega
                have hm2 : bs.length + sx.size ≤ 140737488355328 := by have := HBSL.out; omega
                clear o5 c0 c1 c2 c3 c4 c5 c6 c7 c8 c9 c10 c11 c12
                go_wp2_with (at_builtin; refine Lib.wpList_append_own_string _ rfl _ _ 50 9 rfl w.heap.size 5 i5 Tryd.underlying50 Tryd.underlying9 hi5 z50 z51 z52 bv bs.length (u8s bs) (by rfl) ?qa1 sx (by rfl) hm1 hm2 ?qa2 ?_)
                case qa1 => exact HRB.out
                case qa2 => exact HO2.out.size
                intro v' w6 hown hgrow hnil
                have HG := hid (only_grow (L := []) HO2.out hgrow (fun b hb => .inr (row_ge HRB.out b hb).1))
                have HB6 := hid (rb_app hown (by first | rfl | (rw [ByteArray.size_append, ByteArray.size_append]; rfl)))
                have HI6 : Hid (RI w6 w.heap.size (.slice oa 0 oc) L) := ri_grown HRB.out hgrow HRI.out
                clear hown hgrow hnil
                have hll : 0 ≤ 8192 := by rw [← HLM.out]; have := HLL.out; omega
                have hi1 : 0 + 1 ≤ maxLen := by unfold maxLen; omega
                have hi2 : (0 + 1) * 8 ≤ 140737488355328 := by omega
                go_wp2_with (at_builtin; refine wpList_append_sl _ rfl _ _ 36 rfl w.heap.size 3 i3 _ 1 8 Tryd.underlying36 hi3 z30 z31 z32 rfl (by decide) (.slice oa 0 oc) 0 (ivs L) (by rfl) ?qb1 (some ⟨w6.heap.size, 0, none⟩) 1 1 [iv k] (by rfl) rfl ?qb2 ?qb3 hi1 hi2 ?qb4 ?_)
                case qb1 => have := HI6.out; unfold RI at this; rw [HLM.out] at this; exact row_only this ((Only.refl [] w6).alloc _) (by simp)
                case qb2 => exact sl_newest w6 [iv k] 3 rfl
                case qb3 => first | rfl | (intro u hu; simp at hu; subst hu; rfl)
                case qb4 => have := HG.out.size; simp; omega
                intro v2 w7 hown hgrew
                obtain ⟨od, op, hve, -, -⟩ := row_reads hown
                subst hve
                have HI7 : Hid (RI w7 w.heap.size (.slice od (0 + 1) op) (L ++ [k])) := by
                  show World.ownsRow _ _ _ _ _ _ _
                  rw [ivs_app, List.length_append, HLM.out]; exact hown
                have HB7 : Hid (RB w7 w.heap.size v' (bs ++ bl sx)) := rb_grown (row_only HI6.out ((Only.refl [] w6).alloc _) (by simp)) hgrew.grown (row_only HB6.out ((Only.refl [] w6).alloc _) (by simp))
                have HG7 := hid (only_grow (L := []) (HG.out.alloc (.cells #[iv k] 3)) hgrew.grown (fun b hb => .inr (row_ge HI6.out b hb).1))
                clear hown hgrew
                go_wp2_with fail
                go_roundw
                case rel => exact ⟨k + 1, 0 + 1, op, v', od, bs ++ bl sx, L ++ [k], rfl, rfl, by go_num, HLT.out, ⟨by simp [HLM.out], HB7.out, HI7.out, by rw [HRUN.out, HIT.out, HSB.out, HBSE.out], by rw [HSK.out, List.reverse_append, HSE.out]; rfl⟩, HG7.out⟩
                case measure => have := HLT.out; simp [RowKit.intOf]; omega
          · subst hmq
            have hla := hst.out.2.2.1
            rw [hL] at hla
            obtain ⟨b2, off2, rfl, hb2, hcell, hqc⟩ := ri_last hq hla
            have HCELL := hid hcell
            have HB2 := hid hb2
            have gl : ∀ d os, (behind wr d os).cell? ⟨b2, off2 + q, none⟩ = some (.int .i64 (y : Int)) := fun d os => (cell_behind HB2.out d os).trans HCELL.out
            have gp : ∀ d os, (behind wr d os).cell? ⟨b, off + k * 13 + 1, none⟩ = some (.int .i64 p) := fun d os => HCP.out _ (ho.out.trans (only_behind wr d os))
            have hq0 : (0 : Int) ≤ (q : Int) := by omega
            have hq1 : (q : Int) + 1 - 1 = (q : Int) := by omega
            have hq2 : (0 : Int) < (q : Int) + 1 := by omega
            have HLL := hid hst.out.2.2.2.2.2.2
            have hq8 : q ≤ 8192 := by have := HLL.out; rw [hst.out.1] at this; omega
            clear hcell hb2 hla
            have hne : ((y : Int) != p) = false := by simp [hy]
            clear hL hq
            clear hy
            go_wp2_with fail
            refine wp_region_behind (by kernel_rfl) (by kernel_rfl) ?_
            repeat (go_big_quiet_step (fail))
            refine wpQuiet_nil ?_
            intro _ hw'
            obtain ⟨⟨dq, osq⟩, hw''⟩ := hw'
            subst hw''
            obtain ⟨W2, hW2⟩ : ∃ W2, behind wr dq osq = W2 := ⟨_, rfl⟩
            have o2 : Only [] wr W2 := hW2 ▸ only_behind wr dq osq
            rw [hW2]
            clear hW2
            have HRB : Hid (RB W2 w.heap.size bv bs) := row_only hst.out.2.1 o2 (by simp)
            have HRI : Hid (RI W2 w.heap.size (.slice (some ⟨b2, off2, none⟩) (q + 1) oc) L) := row_only hst.out.2.2.1 o2 (by simp)
            have HLM : Hid (L.length = (q + 1)) := hst.out.1
            have HO2 := hid (ho.out.trans o2)
            clear gl gp
            have HBSE := hid hB
            have HSE := hid hS
            have HBSL : Hid (bs.length ≤ 34359787520) := by show _ ≤ _; rw [hB]; exact hbsl
            have c0 := cell_keep HO2.out HBW.out (HC.out 0 _ rfl)
            try simp only [Nat.add_zero] at c0
            try dsimp only at c0
            clear hst ho hS hB o2
            by_cases h4 : xn.kind = 4
            · obtain ⟨tb, htb⟩ := Option.isSome_iff_exists.1 (HTS.out h4)
              have HIT : Hid (itemB xn = tb) := by show _ = _; unfold itemB; rw [if_pos h4, htb]; rfl
              have HSK : Hid ((runP (nds xs) (k + 1)).1 = ST) := by show _ = _; rw [HSTK.out, if_pos (.inl h4)]
              have HTXc := hid (refText_c (cap := cc) ((HCS.out.keep HO2.out (by simp)).sl) (by rw [HCM.out]; exact hcm32))
              rw [HCM.out, htb] at HTXc
              unfold textV at HTXc
              dsimp only at HTXc
              have htl := textM_len htb
              rw [HCM.out] at htl
              have htlt := textM_lt htb
              have c12 := cell_keep HO2.out HBW.out (HC.out 12 _ rfl)
              dsimp only at c12
              have k4 : (xn.kind == 4) = true := by simp [h4]
              obtain ⟨sx, hsx⟩ : ∃ sx, strN tb = sx := ⟨_, rfl⟩
              have hsz : sx.size ≤ 25769803776 := by rw [← hsx, ← bl_length, bl_strN _ htlt]; omega
              have HSB : Hid (bl sx = tb) := by show _ = _; rw [← hsx]; exact bl_strN _ htlt
              rw [hsx] at HTXc
              clear h4 htb htl htlt hsx
              go_wp2_with fail
              refine HTXc.out.mono ?_
              rintro e w5 ⟨rfl, o5⟩
              have HRB : Hid (RB w5 w.heap.size bv bs) := row_only HRB.out o5 (by simp)
              have HRI : Hid (RI w5 w.heap.size (.slice (some ⟨b2, off2, none⟩) (q + 1) oc) L) := row_only HRI.out o5 (by simp)
              have HO2 := hid (HO2.out.trans o5)
              have hm1 : bs.length + sx.size ≤ maxLen := by have := HBSL.out; unfold maxLen; omega
              have hm2 : bs.length + sx.size ≤ 140737488355328 := by have := HBSL.out; omega
              clear o5 c12 c0
              go_wp2_with (at_builtin; refine Lib.wpList_append_own_string _ rfl _ _ 50 9 rfl w.heap.size 5 i5 Tryd.underlying50 Tryd.underlying9 hi5 z50 z51 z52 bv bs.length (u8s bs) (by rfl) ?qa1 sx (by rfl) hm1 hm2 ?qa2 ?_)
              case qa1 => exact HRB.out
              case qa2 => exact HO2.out.size
              intro v' w6 hown hgrow hnil
              have HG := hid (only_grow (L := []) HO2.out hgrow (fun b hb => .inr (row_ge HRB.out b hb).1))
              have HB6 := hid (rb_app hown (by first | rfl | (rw [ByteArray.size_append, ByteArray.size_append]; rfl)))
              have HI6 : Hid (RI w6 w.heap.size (.slice (some ⟨b2, off2, none⟩) (q + 1) oc) L) := ri_grown HRB.out hgrow HRI.out
              clear hown hgrow hnil
              go_wp2_with fail
              go_roundw
              case rel => exact ⟨k + 1, (q + 1), oc, v', (some ⟨b2, off2, none⟩), bs ++ bl sx, L, rfl, rfl, by go_num, HLT.out, ⟨HLM.out, HB6.out, HI6.out, by rw [HRUN.out, HIT.out, HSB.out, HBSE.out], by rw [HSK.out, HSE.out]⟩, HG.out⟩
              case measure => have := HLT.out; simp [RowKit.intOf]; omega
            · have k4 : (xn.kind == 4) = false := by simp [h4]
              by_cases h5 : xn.kind = 5
              · have k5 : (xn.kind == 5) = true := by simp [h5]
                have HIT : Hid (itemB xn = [60, 98, 114, 47, 62]) := item_br h5
                have HSK : Hid ((runP (nds xs) (k + 1)).1 = ST) := by show _ = _; rw [HSTK.out, if_pos (.inr h5)]
                have hm1 : bs.length + ({ data := #[60, 98, 114, 47, 62] } : ByteArray).size ≤ maxLen := by have := HBSL.out; unfold maxLen; show _ + 5 ≤ _; omega
                have hm2 : bs.length + ({ data := #[60, 98, 114, 47, 62] } : ByteArray).size ≤ 140737488355328 := by have := HBSL.out; show _ + 5 ≤ _; omega
                clear h4 h5
                go_wp2_with (at_builtin; refine Lib.wpList_append_own_string _ rfl _ _ 50 9 rfl w.heap.size 5 i5 Tryd.underlying50 Tryd.underlying9 hi5 z50 z51 z52 bv bs.length (u8s bs) (by rfl) ?qa1 { data := #[60, 98, 114, 47, 62] } (by rfl) hm1 hm2 ?qa2 ?_)
                case qa1 => exact HRB.out
                case qa2 => exact HO2.out.size
                intro v' w6 hown hgrow hnil
                have HG := hid (only_grow (L := []) HO2.out hgrow (fun b hb => .inr (row_ge HRB.out b hb).1))
                have HB6 := hid (rb_app hown (by first | rfl | (rw [ByteArray.size_append, ByteArray.size_append]; rfl)))
                have HI6 : Hid (RI w6 w.heap.size (.slice (some ⟨b2, off2, none⟩) (q + 1) oc) L) := ri_grown HRB.out hgrow HRI.out
                clear hown hgrow hnil
                go_wp2_with fail
                go_roundw
                case rel => exact ⟨k + 1, (q + 1), oc, v', (some ⟨b2, off2, none⟩), bs ++ bl { data := #[60, 98, 114, 47, 62] }, L, rfl, rfl, by go_num, HLT.out, ⟨HLM.out, HB6.out, HI6.out, by rw [HRUN.out, HIT.out, HBSE.out]; rfl, by rw [HSK.out, HSE.out]⟩, HG.out⟩
                case measure => have := HLT.out; simp [RowKit.intOf]; omega
              · have k5 : (xn.kind == 5) = false := by simp [h5]
                have HIT : Hid (itemB xn = tagB xn) := item_tag (by have := HKN.out; omega)
                have HSK : Hid ((runP (nds xs) (k + 1)).1 = k :: ST) := by show _ = _; rw [HSTK.out, if_neg (by omega)]
                have hat := atr_tol HAX.out
                have HOP := hid (fun W => refOpen_c (xn, .slice ca cm cc) hat.1 hat.2 W)
                have htl := tagB_len HAX.out
                obtain ⟨sx, hsx⟩ : ∃ sx, tagS xn = sx := ⟨_, rfl⟩
                have HSB : Hid (bl sx = tagB xn) := by show _ = _; rw [← hsx]; exact bl_strN _ (tagB_lt xn)
                have hsz : sx.size ≤ 300 := by rw [← bl_length, HSB.out]; exact htl
                unfold ndc at HOP
                dsimp only at HOP
                rw [hsx] at HOP
                have c1 := cell_keep HO2.out HBW.out (HC.out 1 _ rfl)
                have c2 := cell_keep HO2.out HBW.out (HC.out 2 _ rfl)
                have c3 := cell_keep HO2.out HBW.out (HC.out 3 _ rfl)
                have c4 := cell_keep HO2.out HBW.out (HC.out 4 _ rfl)
                have c5 := cell_keep HO2.out HBW.out (HC.out 5 _ rfl)
                have c6 := cell_keep HO2.out HBW.out (HC.out 6 _ rfl)
                have c7 := cell_keep HO2.out HBW.out (HC.out 7 _ rfl)
                have c8 := cell_keep HO2.out HBW.out (HC.out 8 _ rfl)
                have c9 := cell_keep HO2.out HBW.out (HC.out 9 _ rfl)
                have c10 := cell_keep HO2.out HBW.out (HC.out 10 _ rfl)
                have c11 := cell_keep HO2.out HBW.out (HC.out 11 _ rfl)
                have c12 := cell_keep HO2.out HBW.out (HC.out 12 _ rfl)
                dsimp only at c1 c2 c3 c4 c5 c6 c7 c8 c9 c10 c11 c12
                clear h4 h5 hat htl hsx
                go_wp2_with fail
                refine (HOP.out _).mono ?_
                rintro e w5 ⟨rfl, o5⟩
                have HRB : Hid (RB w5 w.heap.size bv bs) := row_only HRB.out o5 (by simp)
                have HRI : Hid (RI w5 w.heap.size (.slice (some ⟨b2, off2, none⟩) (q + 1) oc) L) := row_only HRI.out o5 (by simp)
                have HO2 := hid (HO2.out.trans o5)
                have hm1 : bs.length + sx.size ≤ maxLen := by have := HBSL.out; unfold maxLen; omega
                have hm2 : bs.length + sx.size ≤ 140737488355328 := by have := HBSL.out; omega
                clear o5 c0 c1 c2 c3 c4 c5 c6 c7 c8 c9 c10 c11 c12
                go_wp2_with (at_builtin; refine Lib.wpList_append_own_string _ rfl _ _ 50 9 rfl w.heap.size 5 i5 Tryd.underlying50 Tryd.underlying9 hi5 z50 z51 z52 bv bs.length (u8s bs) (by rfl) ?qa1 sx (by rfl) hm1 hm2 ?qa2 ?_)
                case qa1 => exact HRB.out
                case qa2 => exact HO2.out.size
                intro v' w6 hown hgrow hnil
                have HG := hid (only_grow (L := []) HO2.out hgrow (fun b hb => .inr (row_ge HRB.out b hb).1))
                have HB6 := hid (rb_app hown (by first | rfl | (rw [ByteArray.size_append, ByteArray.size_append]; rfl)))
                have HI6 : Hid (RI w6 w.heap.size (.slice (some ⟨b2, off2, none⟩) (q + 1) oc) L) := ri_grown HRB.out hgrow HRI.out
                clear hown hgrow hnil
                have hll : (q + 1) ≤ 8192 := by rw [← HLM.out]; have := HLL.out; omega
                have hi1 : (q + 1) + 1 ≤ maxLen := by unfold maxLen; omega
                have hi2 : ((q + 1) + 1) * 8 ≤ 140737488355328 := by omega
                go_wp2_with (at_builtin; refine wpList_append_sl _ rfl _ _ 36 rfl w.heap.size 3 i3 _ 1 8 Tryd.underlying36 hi3 z30 z31 z32 rfl (by decide) (.slice (some ⟨b2, off2, none⟩) (q + 1) oc) (q + 1) (ivs L) (by rfl) ?qb1 (some ⟨w6.heap.size, 0, none⟩) 1 1 [iv k] (by rfl) rfl ?qb2 ?qb3 hi1 hi2 ?qb4 ?_)
                case qb1 => have := HI6.out; unfold RI at this; rw [HLM.out] at this; exact row_only this ((Only.refl [] w6).alloc _) (by simp)
                case qb2 => exact sl_newest w6 [iv k] 3 rfl
                case qb3 => first | rfl | (intro u hu; simp at hu; subst hu; rfl)
                case qb4 => have := HG.out.size; simp; omega
                intro v2 w7 hown hgrew
                obtain ⟨od, op, hve, -, -⟩ := row_reads hown
                subst hve
                have HI7 : Hid (RI w7 w.heap.size (.slice od ((q + 1) + 1) op) (L ++ [k])) := by
                  show World.ownsRow _ _ _ _ _ _ _
                  rw [ivs_app, List.length_append, HLM.out]; exact hown
                have HB7 : Hid (RB w7 w.heap.size v' (bs ++ bl sx)) := rb_grown (row_only HI6.out ((Only.refl [] w6).alloc _) (by simp)) hgrew.grown (row_only HB6.out ((Only.refl [] w6).alloc _) (by simp))
                have HG7 := hid (only_grow (L := []) (HG.out.alloc (.cells #[iv k] 3)) hgrew.grown (fun b hb => .inr (row_ge HI6.out b hb).1))
                clear hown hgrew
                go_wp2_with fail
                go_roundw
                case rel => exact ⟨k + 1, (q + 1) + 1, op, v', od, bs ++ bl sx, L ++ [k], rfl, rfl, by go_num, HLT.out, ⟨by simp [HLM.out], HB7.out, HI7.out, by rw [HRUN.out, HIT.out, HSB.out, HBSE.out], by rw [HSK.out, List.reverse_append, HSE.out]; rfl⟩, HG7.out⟩
                case measure => have := HLT.out; simp [RowKit.intOf]; omega
          · subst hmq
            have hla := hst.out.2.2.1
            rw [hL] at hla
            obtain ⟨b2, off2, rfl, hb2, hcell, hqc⟩ := ri_last hq hla
            have HCELL := hid hcell
            have HB2 := hid hb2
            have gl : ∀ d os, (behind wr d os).cell? ⟨b2, off2 + q, none⟩ = some (.int .i64 (y : Int)) := fun d os => (cell_behind HB2.out d os).trans HCELL.out
            have gp : ∀ d os, (behind wr d os).cell? ⟨b, off + k * 13 + 1, none⟩ = some (.int .i64 p) := fun d os => HCP.out _ (ho.out.trans (only_behind wr d os))
            have hq0 : (0 : Int) ≤ (q : Int) := by omega
            have hq1 : (q : Int) + 1 - 1 = (q : Int) := by omega
            have hq2 : (0 : Int) < (q : Int) + 1 := by omega
            have HLL := hid hst.out.2.2.2.2.2.2
            have hq8 : q ≤ 8192 := by have := HLL.out; rw [hst.out.1] at this; omega
            clear hcell hb2 hla
            have hne : ((y : Int) != p) = true := by simp [hy]
            go_wp2_with fail
            refine wp_region_behind (by kernel_rfl) (by kernel_rfl) ?_
            repeat (go_big_quiet_step (fail))
            refine wpQuiet_nil ?_
            intro _ hw'
            obtain ⟨⟨dq, osq⟩, hw''⟩ := hw'
            subst hw''
            obtain ⟨W2, hW2⟩ : ∃ W2, behind wr dq osq = W2 := ⟨_, rfl⟩
            have o2 : Only [] wr W2 := hW2 ▸ only_behind wr dq osq
            rw [hW2]
            clear hW2
            have HRB : Hid (RB W2 w.heap.size bv bs) := row_only hst.out.2.1 o2 (by simp)
            have HRI : Hid (RI W2 w.heap.size (.slice (some ⟨b2, off2, none⟩) (q + 1) oc) L) := row_only hst.out.2.2.1 o2 (by simp)
            have HLM : Hid (L.length = (q + 1)) := hst.out.1
            have HO2 := hid (ho.out.trans o2)
            clear gl gp
            have hyN : y < N := hst.out.2.2.2.2.2.1 y (by rw [hL]; simp)
            have hyl : (y : Int) < (N : Int) := by omega
            have hy0 : (0 : Int) ≤ (y : Int) := by omega
            have ck := HAT.out y hyN W2 HO2.out
            have cl : W2.cell? ⟨b2, off2 + q, none⟩ = some (.int .i64 (y : Int)) := cell_keep o2 HB2.out HCELL.out
            have HEL : Hid (∀ i ∈ L', i < N) := fun i hi => hst.out.2.2.2.2.2.1 i (by rw [hL]; exact List.mem_append_left _ hi)
            obtain ⟨kk, hkk⟩ : ∃ kk, nk (nds xs) y = kk := ⟨_, rfl⟩
            rw [hkk] at ck
            obtain ⟨nS, hnS⟩ : ∃ nS, nameS kk = nS := ⟨_, rfl⟩
            have hns3 : nS.size ≤ 3 := by rw [← hnS]; exact nameS_size kk
            have HNMc := hid (fun W => refName2_c kk W)
            rw [hnS] at HNMc
            have HCT : Hid (bl ({ data := #[60, 47] } ++ nS ++ { data := #[62] }) = ctag (nds xs) y) := by show _ = _; rw [← ctagS_bl, hkk, ← hnS]; rfl
            have e1 : ¬ 9223372036854775807 < 2 + nS.size := by omega
            have e2 : ¬ 9223372036854775807 < 2 + nS.size + 1 := by omega
            have hcs6 : ({ data := #[60, 47] } ++ nS ++ { data := #[62] } : ByteArray).size ≤ 6 := by
              rw [ByteArray.size_append, ByteArray.size_append]
              show 2 + nS.size + 1 ≤ 6
              omega
            have HBSL : Hid (bs.length ≤ 34359787520) := by
              show _ ≤ _
              have := congrArg List.length hB
              simp only [List.length_append] at this
              omega
            have hm1 : bs.length + ({ data := #[60, 47] } ++ nS ++ { data := #[62] } : ByteArray).size ≤ maxLen := by have := HBSL.out; unfold maxLen; omega
            have hm2 : bs.length + ({ data := #[60, 47] } ++ nS ++ { data := #[62] } : ByteArray).size ≤ 140737488355328 := by have := HBSL.out; omega
            have HBE := hid hB
            have HSE := hid hS
            have HQ := hid hq
            have HL := hid hL
            have hqc1 : q ≤ oc := by omega
            have hqc2 : (q : Int) ≤ (oc : Int) := by omega
            clear hkk hnS hst ho o2 hB hS hq hL hy
            go_wp2_with fail
            refine (HNMc.out _).mono ?_
            rintro e w5 ⟨rfl, rfl⟩
            go_wp2_with (at_builtin; refine Lib.wpList_append_own_string _ rfl _ _ 50 9 rfl w.heap.size 5 i5 Tryd.underlying50 Tryd.underlying9 hi5 z50 z51 z52 bv bs.length (u8s bs) (by rfl) ?qa1 ({ data := #[60, 47] } ++ nS ++ { data := #[62] }) (by rfl) hm1 hm2 ?qa2 ?_)
            case qa1 => exact HRB.out
            case qa2 => exact HO2.out.size
            intro v' w6 hown hgrow hnil
            have HG := hid (only_grow (L := []) HO2.out hgrow (fun b hb => .inr (row_ge HRB.out b hb).1))
            have HB6 := hid (rb_app hown (by first | rfl | (rw [ByteArray.size_append, ByteArray.size_append]; rfl)))
            have HI6 : Hid (RI w6 w.heap.size (.slice (some ⟨b2, off2, none⟩) (q + 1) oc) L) := ri_grown HRB.out hgrow HRI.out
            clear hown hgrow hnil
            have HI7 : Hid (RI w6 w.heap.size (.slice (some ⟨b2, off2, none⟩) q oc) L') := by have := HI6.out; rw [HL.out] at this; exact ri_pop HQ.out this
            go_wp2_with fail
            go_roundw
            case rel => exact ⟨q, oc, v', _, bs ++ bl ({ data := #[60, 47] } ++ nS ++ { data := #[62] }), L', rfl, rfl, ⟨HQ.out, HB6.out, HI7.out, by rw [HCT.out]; exact HBE.out, HSE.out, HEL.out, by have := HLL.out; rw [HL.out, List.length_append] at this; omega⟩, HG.out⟩
            case measure => first | (simp [slLen]; done) | (simp [slLen]; omega)
      · have hkl : ¬ (k : Int) < (N : Int) := by omega
        have hkn : k = N := by omega
        have hprt : bs ++ (clos (nds xs) (-1) L.reverse).2 = prt (nds xs) := by
          rw [hst.out.2.2.2.1, hst.out.2.2.2.2, hkn]; unfold prt; rw [HNN.out]
        have hel : ∀ i ∈ L, i < N := fun i hi => by
          have := runP_elems k (HGD.out.mono hk) i (by rw [← hst.out.2.2.2.2]; simpa using hi)
          omega
        have hLL : L.length ≤ 8192 := by have := (HBL.out k hk).2; rw [← hst.out.2.2.2.2, List.length_reverse] at this; exact this
        have hbsl : (prt (nds xs)).length ≤ 34359787520 := by
          unfold prt
          rw [HNN.out, List.length_append]
          have a := HBL.out N (Nat.le_refl _)
          have c := clos_len (nds xs) (-1) (runP (nds xs) N).1
          omega
        have HBSX := hid hbsl
        have HIN : Hid (L.length = m ∧ RB wr w.heap.size bv bs ∧ RI wr w.heap.size (.slice oa m oc) L ∧ bs ++ (clos (nds xs) (-1) L.reverse).2 = prt (nds xs) ∧ (∀ i ∈ L, i < N) ∧ L.length ≤ 8192) := ⟨hst.out.1, hst.out.2.1, hst.out.2.2.1, hprt, hel, hLL⟩
        clear hst hkn hprt hel hLL hbsl hlt
        go_wp2_with fail
        go_loopw [6, 7] (fun v6 v7 wr => ∃ (m oc : Nat) (bv : Value) (oa : Option Addr) (bs L : List Nat), bv = v6 ∧ v7 = .slice oa m oc ∧ Hid (L.length = m ∧ RB wr w.heap.size bv bs ∧ RI wr w.heap.size (.slice oa m oc) L ∧ bs ++ (clos (nds xs) (-1) L.reverse).2 = prt (nds xs) ∧ (∀ i ∈ L, i < N) ∧ L.length ≤ 8192) ∧ Hid (Only [] w wr)) (fun _ v7 _ => slLen v7)
        case atStart => exact ⟨m, oc, _, oa, bs, L, rfl, rfl, HIN.out, ho.out⟩
        case round =>
          clear ho HIN
          obtain ⟨m, oc, bv, oa, bs, L, rfl, rfl, hst, ho⟩ := hrel
          rcases List.eq_nil_or_concat L with e | ⟨L', y, e⟩
          · subst e
            have hm0 : m = 0 := hst.out.1.symm
            subst hm0
            have hb : bs = prt (nds xs) := by have := hst.out.2.2.2.1; simpa [clos] using this
            have hcv := RB.str hst.out.2.1 (by rw [hb]; exact prt_lt _)
            rw [hb] at hcv
            clear hst hb
            go_wp2_with fail
            go_ret2
            rw [HP.out]
            exact ⟨rfl, ho.out⟩
          · rw [List.concat_eq_append] at e
            have hL := e
            obtain ⟨q, hq⟩ : ∃ q, L'.length = q := ⟨_, rfl⟩
            have hmq : m = q + 1 := by rw [← hst.out.1, hL, ← hq]; simp
            have hB : (bs ++ ctag (nds xs) y) ++ (clos (nds xs) (-1) L'.reverse).2 = prt (nds xs) := by
              have h2 := hst.out.2.2.2.1
              rw [hL, List.reverse_append, List.reverse_cons, List.reverse_nil, List.nil_append, List.singleton_append] at h2
              rw [← h2]; conv => rhs; unfold clos
              rw [if_neg (by omega)]; simp
            subst hmq
            have hla := hst.out.2.2.1
            rw [hL] at hla
            obtain ⟨b2, off2, rfl, hb2, hcell, hqc⟩ := ri_last hq hla
            have hq0 : (0 : Int) ≤ (q : Int) := by omega
            have hq1 : (q : Int) + 1 - 1 = (q : Int) := by omega
            have hq2 : (0 : Int) < (q : Int) + 1 := by omega
            have HLL := hid hst.out.2.2.2.2.2
            have hq8 : q ≤ 8192 := by have := HLL.out; rw [hst.out.1] at this; omega
            have hyN : y < N := hst.out.2.2.2.2.1 y (by rw [hL]; simp)
            have HEL : Hid (∀ i ∈ L', i < N) := fun i hi => hst.out.2.2.2.2.1 i (by rw [hL]; exact List.mem_append_left _ hi)
            have hyl : (y : Int) < (N : Int) := by omega
            have hy0 : (0 : Int) ≤ (y : Int) := by omega
            obtain ⟨yx, hyx⟩ := some_at (xs := xs) (i := y) (by rw [HN.out]; exact hyN)
            obtain ⟨bn, offn, rfl, -, hbn, hcn⟩ := (HNL.out.still ho.out).at_ hyx
            have ck := hcn 0 _ rfl
            simp only [Nat.add_zero] at ck
            have hnk : nk (nds xs) y = yx.1.kind := nk_of (nds_get hyx)
            obtain ⟨kk, hkk⟩ : ∃ kk, yx.1.kind = kk := ⟨_, rfl⟩
            rw [hkk] at ck hnk
            obtain ⟨nS, hnS⟩ : ∃ nS, nameS kk = nS := ⟨_, rfl⟩
            have hns3 : nS.size ≤ 3 := by rw [← hnS]; exact nameS_size kk
            have HNMc := hid (fun W => refName2_c kk W)
            rw [hnS] at HNMc
            have HCT : Hid (bl ({ data := #[60, 47] } ++ nS ++ { data := #[62] }) = ctag (nds xs) y) := by show _ = _; rw [← ctagS_bl, hnk, ← hnS]; rfl
            have e1 : ¬ 9223372036854775807 < 2 + nS.size := by omega
            have e2 : ¬ 9223372036854775807 < 2 + nS.size + 1 := by omega
            have hcs6 : ({ data := #[60, 47] } ++ nS ++ { data := #[62] } : ByteArray).size ≤ 6 := by
              rw [ByteArray.size_append, ByteArray.size_append]
              show 2 + nS.size + 1 ≤ 6
              omega
            have HBSL : Hid (bs.length ≤ 34359787520) := by
              show _ ≤ _
              have := congrArg List.length hB
              simp only [List.length_append] at this
              have := HBSX.out
              omega
            have hm1 : bs.length + ({ data := #[60, 47] } ++ nS ++ { data := #[62] } : ByteArray).size ≤ maxLen := by have := HBSL.out; unfold maxLen; omega
            have hm2 : bs.length + ({ data := #[60, 47] } ++ nS ++ { data := #[62] } : ByteArray).size ≤ 140737488355328 := by have := HBSL.out; omega
            have HBE := hid hB
            have HQ := hid hq
            have HL := hid hL
            have hqc1 : q ≤ oc := by omega
            have hqc2 : (q : Int) ≤ (oc : Int) := by omega
            have HRB := hid hst.out.2.1
            have HRI := hid hst.out.2.2.1
            have HO2 := hid ho.out
            clear hnS hst ho hB hq hL hla e hcn hyx hnk hkk
            go_wp2_with fail
            refine (HNMc.out _).mono ?_
            rintro e w5 ⟨rfl, rfl⟩
            go_wp2_with (at_builtin; refine Lib.wpList_append_own_string _ rfl _ _ 50 9 rfl w.heap.size 5 i5 Tryd.underlying50 Tryd.underlying9 hi5 z50 z51 z52 bv bs.length (u8s bs) (by rfl) ?qa1 ({ data := #[60, 47] } ++ nS ++ { data := #[62] }) (by rfl) hm1 hm2 ?qa2 ?_)
            case qa1 => exact HRB.out
            case qa2 => exact HO2.out.size
            intro v' w6 hown hgrow hnil
            have HG := hid (only_grow (L := []) HO2.out hgrow (fun b hb => .inr (row_ge HRB.out b hb).1))
            have HB6 := hid (rb_app hown (by first | rfl | (rw [ByteArray.size_append, ByteArray.size_append]; rfl)))
            have HI6 : Hid (RI w6 w.heap.size (.slice (some ⟨b2, off2, none⟩) (q + 1) oc) L) := ri_grown HRB.out hgrow HRI.out
            clear hown hgrow hnil
            have HI7 : Hid (RI w6 w.heap.size (.slice (some ⟨b2, off2, none⟩) q oc) L') := by have := HI6.out; rw [HL.out] at this; exact ri_pop HQ.out this
            go_wp2_with fail
            go_roundw
            case rel => exact ⟨q, oc, v', _, bs ++ bl ({ data := #[60, 47] } ++ nS ++ { data := #[62] }), L', rfl, rfl, ⟨HQ.out, HB6.out, HI7.out, by rw [HCT.out]; exact HBE.out, HEL.out, by have := HLL.out; rw [HL.out, List.length_append] at this; omega⟩, HG.out⟩
            case measure => first | (simp [slLen]; done) | (simp [slLen]; omega)
  · have HP : Hid (prtV (nds xs) = .tuple #[.string ⟨#[]⟩, .int .i64 (chkN (nds xs)).2]) := by show _ = _; unfold prtV; rw [if_neg hd0]
    obtain ⟨e, he⟩ : ∃ e, (chkN (nds xs)).2 = e := ⟨_, rfl⟩
    obtain ⟨q, hq⟩ : ∃ q, (chkN (nds xs)).1 = q := ⟨_, rfl⟩
    rw [he] at hd0 HP HCK
    rw [hq] at HCK
    have e0 : (e == 0) = false := by simpa using hd0
    have e1 : (e != 0) = true := by simpa using hd0
    clear he hq hd0 hNL hlen hf hsum hNn
    generalize xs.length = N at *
    go_enter Tryd.func15, Tryd.ntmps15
    go_wp2_with fail
    refine HCK.out.mono ?_
    rintro e w1 ⟨rfl, ho1⟩
    have HO1 := hid ho1
    clear ho1
    go_wp2_with fail
    go_ret2
    rw [HP.out]
    exact ⟨rfl, HO1.out⟩
end Go.Proofs.YtmlhibcbgdhadaaDoor
