/- Font: the glyphs by the iterator, the pairs out of the map in whatever order, sorted. -/
import Derived.Test.YtnplplhhldpgmaaDrawn
import Derived.Maps.AppendAt
namespace Go.Proofs.Ytnplplhhldpgmaa
open Go.RowKit Go.Shelf
open Go.ChangeMaps (setBlock)
attribute [local go_sem] Oper.semAt_some

/-- a new block of these cells, to be appended -/
theorem news_at (w : World) (cs : List Value) (t : TypeId) {m : Nat} (hm : w.heap.size = m) : ∀ j u, cs[j]? = some u → (w.alloc (.cells cs.toArray t)).cell? ((⟨m, 0, none⟩ : Addr).add j) = some u := by
  intro j u hj
  rw [Addr.add_lit, Nat.zero_add]
  exact (Blk.new w cs.toArray t hm).cell j |>.trans hj
/-- the two fields that grow -/
def Two (h F : Nat) (em : Int) (gs : List Gl) (qs : List Pr) (W : World) : Prop := ∃ gv pv, Blk W F [.int .i64 em, gv, pv] 25 ∧ W.ownsRow h 45 4 gv gs.length (gs.flatMap cg) ∧ W.ownsRow h 52 5 pv qs.length (qs.flatMap cp)
theorem two_own2 (h F : Nat) (em : Int) : Go.Own (fun (s : List Gl × List Pr) W => Two h F em s.1 s.2 W) := by
  rintro s X Y row ⟨gv, pv, hv, hr, hr2⟩ hg hrow
  have out : ∀ b o, X.heap[b]? = some o → o.isCells = true → some b ≠ row := fun b o hb ho e' => by
    obtain ⟨o', ho', hc⟩ := hrow b e'.symm
    rw [hb] at ho'; cases ho'; rw [ho] at hc; cases hc
  have outr : ∀ {e size n : Nat} {v : Value} {xs : List Value}, X.ownsRow h e size v n xs → v.ownBlock = none ∨ v.ownBlock ≠ row := fun hr => by
    rcases hr.2 with ⟨rfl, _⟩ | ⟨g, cap, cur, rfl, _, hgb, _⟩
    · exact .inl rfl
    · exact .inr (by simp only [Value.ownBlock]; exact out g _ hgb rfl)
  exact ⟨gv, pv, (hg.block F hv.lt (out F _ hv rfl)).trans hv, hr.kept hg (outr hr), hr2.kept hg (outr hr2)⟩
theorem two_own (h F : Nat) (em : Int) : Go.Own (fun (s : List Gl) W => Two h F em s [] W) := fun s X Y row hs hg hr => two_own2 h F em (s, []) X Y row hs hg hr
theorem blk_own {β : Type} (b : Nat) (xs : β → List Value) (t : TypeId) : Go.Own (fun (s : β) W => Blk W b (xs s) t) := fun s X Y row hs hg hrow =>
  (hg.block b hs.lt (fun e' => by obtain ⟨o, ho, hc⟩ := hrow b e'.symm; rw [show X.heap[b]? = _ from hs] at ho; cases ho; cases hc)).trans hs

set_option maxRecDepth 100000 in
set_option maxHeartbeats 8000000 in
theorem font_any (B C a : Nat) (em : Int) (gs : List Gl) (ps : List Pr) (w : World) (hC : C ≤ w.heap.size) (hT : Tab B C w a em gs ps) :
    Calls Try.prog 17 #[.pointer (some ⟨a, 0, none⟩)] w fun e w' => ∃ gv pv, e = .returned (.agg #[.int .i64 em, gv, pv]) ∧ w'.ownsRow w.heap.size 45 4 gv gs.length (gs.flatMap cg) ∧ w'.ownsRow w.heap.size 52 5 pv ps.length (ps.flatMap cp) ∧ Below w.heap.size w w' := by
  obtain ⟨i45, hi45, z450, z451, z452⟩ := info_parts info45
  obtain ⟨i52, hi52, z520, z521, z522⟩ := info_parts info52
  obtain ⟨ag, ca, m, hB, hsl, hmp, hA, hM, hO⟩ := hT.lies
  have HL : Hid (gs.length ≤ 1024 ∧ ps.length ≤ 4096) := ⟨hT.gl, hT.pl⟩
  have HRP : Hid (RiseP ps) := hT.rp
  have c0 : w.cell? ⟨a, 0, none⟩ = some (.int .i64 em) := hB.cell 0
  have c2 : w.cell? ⟨a, 2, none⟩ = some (.map (some m)) := hB.cell 2
  have hlt := hB.lt
  refine (callsIn_wide (n := 7)).1 ?_
  refine callsIn_of_wp_marks Try.func17 rfl trivial ?_ rfl
  simp only [Try.ntmps17, List.size_toArray, List.length_cons, List.length_nil, Nat.reduceAdd, Nat.reduceSub, Array.replicate_succ, Array.replicate_zero, List.push_toArray, List.append_toArray, List.nil_append, List.cons_append]
  gi_wp2_with (refine ⟨trivial, ?_⟩; gi_at_call 14; refine (callsIn_wide.2 (all_any _ _)).mono ?_; rintro e w' ⟨rfl, rfl⟩)
  obtain ⟨h, hh⟩ : ∃ h, w.heap.size = h := ⟨_, rfl⟩
  have bZ := ((Blk.new w #[.int .i64 0, .slice none 0 0, .slice none 0 0] 25 hh).alloc (.cells #[.int .i64 em, .slice none 0 0, .slice none 0 0] 25)).alloc (.cells #[.pointer (some ⟨a, 0, none⟩)] 30)
  have bF := (Blk.new (w.alloc (.cells #[.int .i64 0, .slice none 0 0, .slice none 0 0] 25)) #[.int .i64 em, .slice none 0 0, .slice none 0 0] 25 (k := h + 1) (by simp [hh])).alloc (.cells #[.pointer (some ⟨a, 0, none⟩)] 30)
  have bs := Boxed.new ((w.alloc (.cells #[.int .i64 0, .slice none 0 0, .slice none 0 0] 25)).alloc (.cells #[.int .i64 em, .slice none 0 0, .slice none 0 0] 25)) 30 (.pointer (some ⟨a, 0, none⟩))
  simp only [World.size_alloc] at bs
  have hB0 : Below h w (((w.alloc (.cells #[.int .i64 0, .slice none 0 0, .slice none 0 0] 25)).alloc (.cells #[.int .i64 em, .slice none 0 0, .slice none 0 0] 25)).alloc (.cells #[.pointer (some ⟨a, 0, none⟩)] 30)) := by
    rw [← hh]; exact (((Below.refl _ w).alloc (Nat.le_refl _) _).alloc (by simp) _).alloc (by simp; omega) _
  have hsz : (((w.alloc (.cells #[.int .i64 0, .slice none 0 0, .slice none 0 0] 25)).alloc (.cells #[.int .i64 em, .slice none 0 0, .slice none 0 0] 25)).alloc (.cells #[.pointer (some ⟨a, 0, none⟩)] 30)).heap.size = h + 3 := by simp [hh]
  rw [hh] at bs
  rw [hh]
  obtain ⟨W0, hW0⟩ : ∃ W0, ((w.alloc (.cells #[.int .i64 0, .slice none 0 0, .slice none 0 0] 25)).alloc (.cells #[.int .i64 em, .slice none 0 0, .slice none 0 0] 25)).alloc (.cells #[.pointer (some ⟨a, 0, none⟩)] 30) = W0 := ⟨_, rfl⟩
  rw [hW0] at bZ bF bs hB0 hsz ⊢
  have HB' : Hid (Blk w a [.int .i64 em, .slice ag gs.length ca, .map (some m)] 63) := hB
  have HS' : Hid (Sl w ag gs.length (gs.flatMap cg)) := hsl
  have HM' : Hid (MapAt w m ps) := hmp
  have HO' : Hid (∀ b off, ag = some ⟨b, off, none⟩ → b < h) := fun b off e => by have := hO b off e; omega
  have HH : Hid (w.heap.size = h ∧ a < h) := ⟨hh, by omega⟩
  have hBW : Below w.heap.size w W0 := by rw [hh]; exact hB0
  have HST := all_stops 6 (by omega) (h + 1 + 1) a h (.int .i64 em) (.map (some m)) gs ag ca HL.out.1 W0 bs (hB.below hBW) (hsl.below hBW) HO'.out (by omega)
  clear hW0 hB hsl hmp hO hT c0 c2 hM hA hC hlt hh
  refine wpIn_rangeFunc_ownH rfl (by omega) (gf := 29) (lb := #[.pointer (some ⟨h + 1 + 1, 0, none⟩)]) rfl trivial (enters_of Try.func29 (by kernel_rfl) rfl)
    HST belowK_t (belowK_b (by omega)) (Below.refl _ _) (fun _ => rfl)
    (fun pre W => (Two h (h + 1) em pre [] W ∧ Blk W h [.int .i64 0, .slice none 0 0, .slice none 0 0] 25) ∧ Below h w W)
    (fun _ _ _ => False)
    (OwnFrom.and (OwnFrom.and (Go.Own.from (two_own _ _ _) _) (Go.Own.from (blk_own _ _ _) _)) (ownFrom_below (by rw [HH.out.1]; exact Nat.le_refl _) (by omega)))
    (fun _ _ _ _ _ hs _ _ => hs)
    ⟨⟨⟨_, _, bF, World.ownsRow_nil _ _ _ _, World.ownsRow_nil _ _ _ _⟩, bZ⟩, hB0⟩
    (fun x a' W => ∃ Bx, h + 1 < Bx ∧ Blk W Bx (cg x) 45 ∧ a' = { tmps := #[.pointer (some ⟨a, 0, none⟩), undef, .pointer (some ⟨h, 0, none⟩), .pointer (some ⟨h + 1, 0, none⟩), .pointer (some ⟨Bx, 0, none⟩), undef, undef, .pointer (some ⟨a, 0, none⟩), .pointer (some ⟨a, 0, none⟩), .pointer (some ⟨a, 0, none⟩), .int .i64 em, .agg #[.int .i64 em, .slice none 0 0, .slice none 0 0], .pointer (some ⟨a, 0, none⟩), .func (.func 29) #[] #[.pointer (some ⟨h + 1 + 1, 0, none⟩)], .agg (cg x).toArray, undef, undef, undef, undef, undef, undef, undef, undef, undef, undef, undef, undef, undef, undef, undef, undef, undef, undef, undef, undef, undef, undef, undef, undef, undef], defers := [] })
    (fun x a' _ X Y row hs hg hr => by obtain ⟨Bx, h1, h2, h3⟩ := hs; exact ⟨Bx, h1, blk_own Bx (fun (_ : Unit) => cg x) 45 () X Y row h2 hg (fun r e => (hr r e).2), h3⟩)
    ?assign ?body ?done ?stop
  case assign =>
    rintro l pre x W K ⟨⟨hTw, bz⟩, hb⟩ hK
    have hs := hb.size
    have h1 := HH.out.1
    have hTw' := hTw
    obtain ⟨gv, pv, hv, _, _⟩ := hTw
    have hv1 := hv.lt
    have HKK : Hid _ := hK
    have hI2 : (Two h (h + 1) em pre [] (W.alloc (.cells (cg x).toArray 45)) ∧ Blk (W.alloc (.cells (cg x).toArray 45)) h [.int .i64 0, .slice none 0 0, .slice none 0 0] 25) ∧ Below h w (W.alloc (.cells (cg x).toArray 45)) :=
      ⟨⟨(Go.Own.from (two_own h (h + 1) em) 0).alloc _ hTw', bz.alloc _⟩, hb.alloc (by omega) _⟩
    have hN := Blk.new W (cg x).toArray 45 rfl
    obtain ⟨x0, x1, x2, x3⟩ := x
    simp only [cg, encs] at *
    gi_wp2
    exact HKK.out _ _ ((KeepsOthers.alloc _ _).from _) ((Below.refl _ _).alloc (by omega) _) hI2 ⟨W.heap.size, hv1, hN, rfl⟩
  case body =>
    rintro l pre x a' W hl _ ⟨⟨⟨gv, pv, hv, hr1, hr2⟩, bz⟩, hb⟩ ⟨Bx, hBx, bX, rfl⟩ hlt
    have hs := hb.size
    have h1 := HH.out.1
    have hvl := hv.lt
    have k1 : W.cell? ⟨h + 1, 1, none⟩ = some gv := hv.cell 1
    have PF := fun (v' : Value) (w1 : World) (ys : List Value) (m' : Nat) (ho : w1.ownsRow h 45 4 v' m' ys) (hg : (W.alloc (.cells (cg x).toArray 45)).grownBy w1 gv.ownBlock) => put_field (c := 1) hv (by omega) (by omega) hr1 hr2 (by decide) (by decide) (by decide) ho hg
    have HPF : Hid _ := PF
    have HN1 : Hid _ := news_at W (cg x) 45 rfl
    have HR1 : Hid (W.ownsRow h 45 4 gv pre.length (pre.flatMap cg)) := hr1
    have HBZ : Hid (Blk W h [.int .i64 0, .slice none 0 0, .slice none 0 0] 25) := bz
    have HBB : Hid (Below h w W) := hb
    have hlen : pre.length < 1024 := by have := HL.out.1; omega
    obtain ⟨x0, x1, x2, x3⟩ := x
    have y0 : W.cell? ⟨Bx, 0, none⟩ = some (.int .i64 x0) := bX.cell 0
    have y1 : W.cell? ⟨Bx, 1, none⟩ = some (.int .i64 x1) := bX.cell 1
    have y2 : W.cell? ⟨Bx, 2, none⟩ = some (.int .i64 x2) := bX.cell 2
    have y3 : W.cell? ⟨Bx, 3, none⟩ = some (.int .i64 x3) := bX.cell 3
    simp only [cg] at HPF HN1
    clear PF hr1 hr2 hv bz hb bX
    gi_wp2_with (gi_at_builtin; refine wpListIn_append_own _ rfl _ _ 22 rfl h 45 i45 _ 4 32 Try.underlying22 hi45 z450 z451 z452 rfl (by decide) _ _ _ rfl (HR1.out.alloc _) ⟨W.heap.size, 0, none⟩ 1 1 [.int .i64 x0, .int .i64 x1, .int .i64 x2, .int .i64 x3] rfl rfl HN1.out (by simp [Value.oneCell']) (by unfold maxLen; omega) (by omega) (by simp; omega) ?_; intro v' w1 hown' hgrow _; obtain ⟨g', cap', rfl⟩ := ownsRow_succ hown'; obtain ⟨q1, q2, q3, q4, q5, q6, q7⟩ := HPF.out _ _ _ _ hown' hgrow; have hc1 := q1.cell 1; have hf1 := q1.froz 1)
    refine ⟨q5.from _, q6, ⟨⟨_, _, q2, ?_, q4⟩, q7 _ _ HBZ.out (by omega)⟩, HBB.out.trans q6⟩
    rw [List.length_append, List.length_singleton, List.flatMap_append]
    exact q3
  case done =>
    rintro D ys W hD rfl ⟨⟨⟨gv, pv, hv, hr1, hr2⟩, bz⟩, hb⟩ hK
    have h1 := HH.out.1
    have hs := hb.size
    have hmW : MapAt W m ps := HM'.out.below (by rw [HH.out.1]; exact hb)
    have hcm : W.cell? ⟨a, 2, none⟩ = some (.map (some m)) := (HB'.out.below (by rw [HH.out.1]; exact hb)).cell 2
    have hrg : Sem.run Try.prog (Instr.range 61 (.map (some m))) W = .ok (.pointer (some ⟨W.heap.size, 0, none⟩)) (W.alloc (.mapIter (some m) ps.length #[] ps.length)) := run_range_map W 61 74 52 m _ _ Try.underlying61 hmW
    have hG0 := going_start hmW
    have hI0 : Two h (h + 1) em ys [] (W.alloc (.mapIter (some m) ps.length #[] ps.length)) ∧ Blk (W.alloc (.mapIter (some m) ps.length #[] ps.length)) h [.int .i64 0, .slice none 0 0, .slice none 0 0] 25 ∧ Below h w (W.alloc (.mapIter (some m) ps.length #[] ps.length)) ∧ (W.alloc (.mapIter (some m) ps.length #[] ps.length)).heap[D]? = some (.deferred (some [])) :=
      ⟨(Go.Own.from (two_own h (h + 1) em) 0).alloc _ ⟨gv, pv, hv, hr1, hr2⟩, bz.alloc _, hb.alloc (by omega) _, (Below.heap_alloc _ _ _ (Array.getElem?_eq_some_iff.1 hK).1).trans hK⟩
    have HI0 : Hid _ := And.intro hG0 hI0
    have hit : h < W.heap.size := bz.lt
    obtain ⟨it, hite⟩ : ∃ it, W.heap.size = it := ⟨_, rfl⟩
    rw [hite] at hrg HI0 hit
    clear hG0 hI0 hv hr1 hr2 bz hmW
    gi_wp2
    obtain ⟨W5, hW5⟩ : ∃ W5, W.alloc (.mapIter (some m) ps.length #[] ps.length) = W5 := ⟨_, rfl⟩
    rw [hW5] at HI0 ⊢
    clear hW5 hrg hite hK hcm hb hs
    gi_loopw [] (fun wr => ∃ qs, Going wr it m ps qs ∧ Two h (h + 1) em ys qs wr ∧ Blk wr h [.int .i64 0, .slice none 0 0, .slice none 0 0] 25 ∧ Below h w wr ∧ wr.heap[D]? = some (.deferred (some []))) (fun wr => wr.rangeLeft m it)
    case atStart => exact ⟨[], HI0.out⟩
    case round =>
      obtain ⟨qs, hgo, hTw, bz, hb, hK⟩ := hrel
      have HRel : Hid (Going wr it m ps qs ∧ Two h (h + 1) em ys qs wr ∧ Blk wr h [.int .i64 0, .slice none 0 0, .slice none 0 0] 25 ∧ Below h w wr ∧ wr.heap[D]? = some (.deferred (some []))) := ⟨hgo, hTw, bz, hb, hK⟩
      have hst := hgo.step
      clear hgo hTw bz hb hK HI0
      rcases hst 0 with ⟨hperm, hnx⟩ | ⟨p, W2, hnx, hen, hgo2, ho2, hsz2, hlt2⟩
      · obtain ⟨_, hTw, bz, hb, hK⟩ := HRel.out
        have h1 := HH.out.1
        obtain ⟨gv, pv, hv, hr1, hr2⟩ := hTw
        obtain ⟨ad1, cap1, rfl, _, _⟩ := row_reads hr1
        obtain ⟨ad2, cap2, rfl, _, _⟩ := row_reads hr2
        have hvl := hv.lt
        have hs2 := hb.size
        have k1 : wr.cell? ⟨h + 1, 2, none⟩ = some (.slice ad2 qs.length cap2) := hv.cell 2
        have HS := hid (sort_any hr2 hperm HRP.out HL.out.2)
        have HV : Hid (∀ W', wr.grownBy W' (Value.slice ad2 qs.length cap2).ownBlock → Blk W' (h + 1) [.int .i64 em, .slice ad1 ys.length cap1, .slice ad2 qs.length cap2] 25 ∧ Blk W' h [.int .i64 0, .slice none 0 0, .slice none 0 0] 25 ∧ W'.ownsRow h 45 4 (.slice ad1 ys.length cap1) ys.length (ys.flatMap cg) ∧ Below h w W' ∧ W'.heap[D]? = some (.deferred (some []))) := fun W' hg =>
          ⟨(hg.block _ hv.lt (fun e => blk_not_row hv hr2 (by decide) e.symm)).trans hv, (hg.block _ bz.lt (fun e => blk_not_row bz hr2 (by decide) e.symm)).trans bz, hr1.kept hg (row_not_row hr1 hr2 (by decide)),
            hb.grown hg (by omega) (fun k hk => (hr2.lt k hk).1), (hg.block _ (Array.getElem?_eq_some_iff.1 hK).1 (fun e => by
              rcases hr2.2 with ⟨e0, _⟩ | ⟨g, cap, cur, e0, _, hh, _⟩
              · rw [e0] at e; cases e
              · rw [e0] at e
                simp only [Value.ownBlock, Option.some.injEq] at e
                subst e; rw [hh] at hK; cases hK)).trans hK⟩
        clear hv hr1 hr2 bz hb hK HRel
        gi_wp2_with (refine ⟨trivial, ?_⟩; gi_at_call 33; refine (callsIn_wide.2 HS.out).mono ?_; rintro e W' ⟨rfl, hrow', hgr⟩; obtain ⟨v1, v2, v3, v4, v5⟩ := HV.out W' hgr; have k0 : W'.cell? ⟨h + 1, 0, none⟩ = some (.int .i64 em) := v1.cell 0; have k1 : W'.cell? ⟨h + 1, 1, none⟩ = some (.slice ad1 ys.length cap1) := v1.cell 1; have k2 : W'.cell? ⟨h + 1, 2, none⟩ = some (.slice ad2 qs.length cap2) := v1.cell 2; have z0 : W'.cell? ⟨h, 0, none⟩ = some (.int .i64 0) := v2.cell 0; have z1 : W'.cell? ⟨h, 1, none⟩ = some (.slice none 0 0) := v2.cell 1; have z2 : W'.cell? ⟨h, 2, none⟩ = some (.slice none 0 0) := v2.cell 2; have f0 := v2.froz 0; have f1 := v2.froz 1; have f2 := v2.froz 2)
        have vf := ((v2.set 0 (.int .i64 em)).set 1 (.slice ad1 ys.length cap1)).set 2 (.slice ad2 qs.length cap2)
        have ho : Only [h] W' (((W'.setCell ⟨h, 0, none⟩ (.int .i64 em)).setCell ⟨h, 1, none⟩ (.slice ad1 ys.length cap1)).setCell ⟨h, 2, none⟩ (.slice ad2 qs.length cap2)) := (((Only.refl [h] W').set (p := ⟨h, 0, none⟩) (.inl (by simp)) _).set (p := ⟨h, 1, none⟩) (.inl (by simp)) _).set (p := ⟨h, 2, none⟩) (.inl (by simp)) _
        have hDh : D ≠ h := fun e => by
          subst e
          unfold Blk at v2
          rw [v2] at v5; cases v5
        have hKf := (ho.block D (Array.getElem?_eq_some_iff.1 v5).1 (by simpa using hDh)).trans v5
        have r1f := row_only v3 ho (blk_not_row v2 v3 (by decide))
        have r2f := row_only hrow' ho (blk_not_row v2 hrow' (by decide))
        have hbf : Below h w _ := v4.trans (ho.toBelow (by have := v4.size; omega) (by intro k hk; rw [List.mem_singleton.1 hk]; exact Nat.le_refl _))
        generalize (((W'.setCell ⟨h, 0, none⟩ (.int .i64 em)).setCell ⟨h, 1, none⟩ (.slice ad1 ys.length cap1)).setCell ⟨h, 2, none⟩ (.slice ad2 qs.length cap2)) = Wf at *
        have hg := grownBy_putObj' Wf D (.deferred none)
        have hr : ∀ r, some D = some r → ∃ o : Obj, Wf.heap[r]? = some o ∧ o.isCells = false := fun r e => by cases e; exact ⟨_, hKf, rfl⟩
        have m0 := cell_kept (vf.cell 0 : Wf.cell? ⟨h, 0, none⟩ = some (.int .i64 em)) hg hr
        have m1 := cell_kept (vf.cell 1 : Wf.cell? ⟨h, 1, none⟩ = some (.slice ad1 ys.length cap1)) hg hr
        have m2 := cell_kept (vf.cell 2 : Wf.cell? ⟨h, 2, none⟩ = some (.slice ad2 qs.length cap2)) hg hr
        refine ⟨by simp, .inl ⟨_, _, rfl, run_takeDeferred hKf, ?_⟩⟩
        refine ⟨.agg #[.int .i64 em, .slice ad1 ys.length cap1, .slice ad2 qs.length cap2], by simp [results, Try.results17, go_sem, m0, m1, m2], _, _, rfl, ?_, ?_, ?_⟩
        · rw [HH.out.1]; exact ownsRow_putObj r1f _ hKf rfl
        · rw [HH.out.1]; exact ownsRow_putObj r2f _ hKf rfl
        · rw [HH.out.1]; exact hbf.trans (belowK_b (w := w) (by rw [HH.out.1]; exact Nat.le_refl _) Wf D _ _ (by rw [HH.out.1]; omega) hKf rfl rfl)
      · obtain ⟨hgo, hTw, bz, hb, hK⟩ := HRel.out
        have h1 := HH.out.1
        clear hsz2
        have hoi := hgo
        obtain ⟨seen, c0, a1, hrest⟩ := hoi
        clear hrest
        have hTw2 : Two h (h + 1) em ys qs W2 := two_own2 h (h + 1) em (ys, qs) wr W2 (some it) hTw (only_grown ho2) (fun r e => by cases e; exact ⟨_, a1, rfl⟩)
        have bz2 := ho2.blk bz (by simp only [List.mem_singleton]; omega)
        have hb2 : Below h w W2 := hb.trans (ho2.toBelow (by have := hb.size; omega) (by intro k hk; rw [List.mem_singleton.1 hk]; omega))
        have hK2 : W2.heap[D]? = some (.deferred (some [])) := (ho2.block D (Array.getElem?_eq_some_iff.1 hK).1 (by simp only [List.mem_singleton]; intro e; subst e; rw [hK] at a1; cases a1)).trans hK
        obtain ⟨gv, pv, hv, hr1, hr2⟩ := hTw2
        have hs2 := hb2.size
        have hvl := hv.lt
        have HN1 : Hid _ := news_at (W2.alloc (.cells (cp p).toArray 52)) (cp p) 52 rfl
        have bX := Blk.new W2 (cp p).toArray 52 rfl
        have hvx := hv.alloc (.cells (cp p).toArray 52)
        have k1 : (W2.alloc (.cells (cp p).toArray 52)).cell? ⟨h + 1, 2, none⟩ = some pv := hvx.cell 2
        have PF := fun (v' : Value) (w1 : World) (zs : List Value) (m' : Nat) (ho : w1.ownsRow h 52 5 v' m' zs) (hg : ((W2.alloc (.cells (cp p).toArray 52)).alloc (.cells (cp p).toArray 52)).grownBy w1 pv.ownBlock) => put_field (c := 2) hvx (by omega) (by simp; omega) (hr2.alloc _) (hr1.alloc _) (by decide) (by decide) (by decide) ho hg
        have HPF : Hid _ := PF
        have HR2 : Hid ((W2.alloc (.cells (cp p).toArray 52)).ownsRow h 52 5 pv qs.length (qs.flatMap cp)) := hr2.alloc _
        have HBZ : Hid (Blk (W2.alloc (.cells (cp p).toArray 52)) h [.int .i64 0, .slice none 0 0, .slice none 0 0] 25) := bz2.alloc _
        have HBB : Hid (Below h w (W2.alloc (.cells (cp p).toArray 52))) := hb2.alloc (by omega) _
        have HK2 : Hid (W2.heap[D]? = some (.deferred (some []))) := hK2
        have HGO : Hid (Going W2 it m ps (qs ++ [p])) := hgo2
        have hql : qs.length < 4096 := by have := hgo2.len; have := HL.out.2; rw [List.length_append] at *; simp only [List.length_singleton] at *; omega
        have HLT : Hid (W2.rangeLeft m it < wr.rangeLeft m it) := hlt2
        obtain ⟨p0, p1, p2, p3, p4⟩ := p
        simp only [cp, key] at hnx hen HN1 HPF HR2 HBZ HBB bX k1
        have y0 := bX.cell 0
        clear PF hr1 hr2 hv bz hb bX hgo hTw hK HRel hK2 hgo2 hb2 bz2 a1 ho2 hvx hlt2 y0
        gi_wp2_with (gi_at_builtin; refine wpListIn_append_own _ rfl _ _ 23 rfl h 52 i52 _ 5 40 Try.underlying23 hi52 z520 z521 z522 rfl (by decide) _ _ _ rfl (HR2.out.alloc _) ⟨W2.heap.size + 1, 0, none⟩ 1 1 [.int .i64 p0, .int .i64 p1, .bool p2, .int .i64 p3, .int .i64 p4] rfl rfl (by simpa using HN1.out) (by simp [Value.oneCell']) (by unfold maxLen; omega) (by omega) (by simp; omega) ?_; intro v' w1 hown' hgrow _; obtain ⟨g', cap', rfl⟩ := ownsRow_succ hown'; obtain ⟨q1, q2, q3, q4, q5, q6, q7⟩ := HPF.out _ _ _ _ hown' hgrow; have hc1 := q1.cell 2; have hf1 := q1.froz 2)
        have hkk : ∀ (k : Nat) (o : Obj), W2.heap[k]? = some o → o.isCells = false → (w1.setCell ⟨h + 1, 2, none⟩ (.slice (some ⟨g', 0, none⟩) (qs.length + 1) cap')).heap[k]? = some o := fun k o hk hc => q5.same k o ((Below.heap_alloc _ _ _ (Array.getElem?_eq_some_iff.1 hk).1).trans hk) hc
        have hgk := going_keeps HGO.out hkk
        refine ⟨⟨qs ++ [(p0, p1, p2, p3, p4)], hgk.1, ⟨gv, _, q2, q4, ?_⟩, q7 _ _ HBZ.out (by omega), HBB.out.trans q6, hkk _ _ HK2.out rfl⟩, by rw [hgk.2]; exact HLT.out⟩
        rw [List.length_append, List.length_singleton, List.flatMap_append]
        exact q3
  case stop =>
    rintro D c pre W _ _ h _
    exact h.elim
end Go.Proofs.Ytnplplhhldpgmaa
