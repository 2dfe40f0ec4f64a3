/- lent: a copy of a font, with something behind the end of its lists. -/
import Derived.Test.YtnplplhhldpgmaaApp
namespace Go.Proofs.Ytnplplhhldpgmaa
open Go.RowKit Go.Shelf

theorem sl_new (W : World) (cs : List Value) (t : TypeId) {k n : Nat} (hk : W.heap.size = k) : Sl (W.alloc (.cells cs.toArray t)) (some ⟨k, 0, none⟩) n cs := fun _ => by
  have b := Blk.new W cs.toArray t hk
  exact ⟨k, 0, rfl, b.lt, fun j u hj => by rw [Nat.zero_add]; exact (b.cell j).trans hj⟩
/-- while lent goes: f's box, the result's, x's with its two rows -/
structure LS (h : Nat) (w : World) (em : Int) (fx : List Value) (W : World) (gv pv : Value) (n1 : Nat) (xs1 : List Value) (n2 : Nat) (xs2 : List Value) : Prop where
  bf : Blk W h fx 25
  br : Blk W (h + 1) [.int .i64 0, .slice none 0 0, .slice none 0 0] 25
  bx : Blk W (h + 1 + 1) [.int .i64 em, gv, pv] 25
  r1 : W.ownsRow h 45 4 gv n1 xs1
  r2 : W.ownsRow h 52 5 pv n2 xs2
  bel : Below h w W
theorem LS.alloc {h : Nat} {w : World} {em : Int} {fx : List Value} {W : World} {gv pv : Value} {n1 : Nat} {xs1 : List Value} {n2 : Nat} {xs2 : List Value} (s : LS h w em fx W gv pv n1 xs1 n2 xs2) (o : Obj) : LS h w em fx (W.alloc o) gv pv n1 xs1 n2 xs2 :=
  ⟨s.bf.alloc o, s.br.alloc o, s.bx.alloc o, s.r1.alloc o, s.r2.alloc o, s.bel.alloc (by have := s.bf.lt; omega) o⟩
theorem row_far {h : Nat} {w W : World} {e : TypeId} {size n : Nat} {v : Value} {xs : List Value} {b : Nat} {ys : List Value} {t : TypeId} (hB : Blk W b ys t) (r : W.ownsRow h e size v n xs) (hg : W.grownBy w v.ownBlock) (hne : t ≠ e) : Blk w b ys t :=
  (hg.block b hB.lt (fun e' => blk_not_row hB r hne e'.symm)).trans hB
theorem LS.glyph {h : Nat} {w : World} {em : Int} {fx : List Value} {W w1 : World} {gv pv v' : Value} {n1 m : Nat} {xs1 ys : List Value} {n2 : Nat} {xs2 : List Value} (s : LS h w em fx W gv pv n1 xs1 n2 xs2)
    (ho : w1.ownsRow h 45 4 v' m ys) (hg : W.grownBy w1 gv.ownBlock) : (Blk w1 h fx 25 ∧ Blk w1 (h + 1 + 1) [.int .i64 em, gv, pv] 25) ∧ LS h w em fx (w1.setCell ⟨h + 1 + 1, 1, none⟩ v') v' pv m ys n2 xs2 := by
  have b1 := row_far s.bf s.r1 hg (by decide)
  have b2 := row_far s.br s.r1 hg (by decide)
  have b3 := row_far s.bx s.r1 hg (by decide)
  have r2 : w1.ownsRow h 52 5 pv n2 xs2 := s.r2.kept hg (row_not_row s.r2 s.r1 (by decide))
  have hset : Only [h + 1 + 1] w1 (w1.setCell ⟨h + 1 + 1, 1, none⟩ v') := (Only.refl [h + 1 + 1] w1).set (p := ⟨h + 1 + 1, 1, none⟩) (.inl (by simp)) v'
  have hb : Below h w w1 := s.bel.grown hg (by have := s.bf.lt; omega) (fun k hk => (s.r1.lt k hk).1)
  exact ⟨⟨b1, b3⟩, hset.blk b1 (by simp; omega), hset.blk b2 (by simp), b3.set 1 v', row_only ho hset (blk_not_row b3 ho (by decide)), row_only r2 hset (blk_not_row b3 r2 (by decide)), hb.setCell (p := ⟨h + 1 + 1, 1, none⟩) (by simp; omega) v'⟩
theorem LS.pair {h : Nat} {w : World} {em : Int} {fx : List Value} {W w1 : World} {gv pv v' : Value} {n1 m : Nat} {xs1 ys : List Value} {n2 : Nat} {xs2 : List Value} (s : LS h w em fx W gv pv n1 xs1 n2 xs2)
    (ho : w1.ownsRow h 52 5 v' m ys) (hg : W.grownBy w1 pv.ownBlock) : (Blk w1 h fx 25 ∧ Blk w1 (h + 1 + 1) [.int .i64 em, gv, pv] 25) ∧ LS h w em fx (w1.setCell ⟨h + 1 + 1, 2, none⟩ v') gv v' n1 xs1 m ys := by
  have b1 := row_far s.bf s.r2 hg (by decide)
  have b2 := row_far s.br s.r2 hg (by decide)
  have b3 := row_far s.bx s.r2 hg (by decide)
  have r1 : w1.ownsRow h 45 4 gv n1 xs1 := s.r1.kept hg (row_not_row s.r1 s.r2 (by decide))
  have hset : Only [h + 1 + 1] w1 (w1.setCell ⟨h + 1 + 1, 2, none⟩ v') := (Only.refl [h + 1 + 1] w1).set (p := ⟨h + 1 + 1, 2, none⟩) (.inl (by simp)) v'
  have hb : Below h w w1 := s.bel.grown hg (by have := s.bf.lt; omega) (fun k hk => (s.r2.lt k hk).1)
  exact ⟨⟨b1, b3⟩, hset.blk b1 (by simp; omega), hset.blk b2 (by simp), b3.set 2 v', row_only r1 hset (blk_not_row b3 r1 (by decide)), row_only ho hset (blk_not_row b3 ho (by decide)), hb.setCell (p := ⟨h + 1 + 1, 2, none⟩) (by simp; omega) v'⟩

theorem row_keep {L : List Nat} {W W' : World} {base size n : Nat} {e : TypeId} {v : Value} {xs : List Value} (h : W.ownsRow base e size v n xs) (k : Only L W W') (hn : ∀ b, v.ownBlock = some b → b ∉ L) : W'.ownsRow base e size v n xs := by
  refine ⟨h.1, ?_⟩
  rcases h.2 with h0 | ⟨g, cap, cur, rfl, hb, hh, h2⟩
  · exact .inl h0
  · have hlt : g < W.heap.size := by
      rcases Nat.lt_or_ge g W.heap.size with q | q
      · exact q
      · rw [Array.getElem?_eq_none q] at hh; cases hh
    exact .inr ⟨g, cap, cur, rfl, hb, (k.block g hlt (hn g rfl)).trans hh, h2⟩
theorem results9 {W : World} {B : Nat} {a b c : Value} (hR : Blk W B [a, b, c] 25) {tmps : Array Value} (h4 : tmps[2]? = some (.pointer (some ⟨B, 0, none⟩))) :
    (results Try.f9 tmps).run Try.prog W = .ok (.agg #[a, b, c]) W := by
  have m0 : W.cell? ⟨B, 0, none⟩ = some a := hR.cell 0
  have m1 : W.cell? ⟨B, 1, none⟩ = some b := hR.cell 1
  have m2 : W.cell? ⟨B, 2, none⟩ = some c := hR.cell 2
  simp [results, Try.results9, go_sem, h4, m0, m1, m2]

set_option maxRecDepth 100000 in
set_option maxHeartbeats 8000000 in
theorem lent_any (em : Int) (gs : List Gl) (ps : List Pr) (ag ap : Option Addr) (ca cb : Nat) (w : World) (hn : gs.length ≤ 2147483647) (hm : ps.length ≤ 2147483647) (sg : Sl w ag gs.length (gs.flatMap cg)) (sp : Sl w ap ps.length (ps.flatMap cp)) :
    Calls Try.prog 9 #[.agg #[.int .i64 em, .slice ag gs.length ca, .slice ap ps.length cb]] w fun e w' => ∃ bg c bp d,
      e = .returned (.agg #[.int .i64 em, .slice (some ⟨bg, 0, none⟩) gs.length c, .slice (some ⟨bp, 0, none⟩) ps.length d]) ∧
      w'.ownsRow w.heap.size 45 4 (.slice (some ⟨bg, 0, none⟩) (gs.length + 1) c) (gs.length + 1) (gs.flatMap cg ++ cg (-77, 0, 0, 0)) ∧
      w'.ownsRow w.heap.size 52 5 (.slice (some ⟨bp, 0, none⟩) (ps.length + 1) d) (ps.length + 1) (ps.flatMap cp ++ cp (-77, 0, false, 0, 0)) ∧ Below w.heap.size w w' := by
  obtain ⟨i45, hi45, z450, z451, z452⟩ := info_parts info45
  obtain ⟨i52, hi52, z520, z521, z522⟩ := info_parts info52
  have HSG : Hid (∀ X, Below w.heap.size w X → Sl X ag gs.length (gs.flatMap cg)) := hid fun X h => sg.below h
  have HSP : Hid (∀ X, Below w.heap.size w X → Sl X ap ps.length (ps.flatMap cp)) := hid fun X h => sp.below h
  have HLG : Hid ((gs.flatMap cg).length = gs.length * 4) := hid (flat_len cg_len gs)
  have HLP : Hid ((ps.flatMap cp).length = ps.length * 5) := hid (flat_len cp_len ps)
  obtain ⟨h, hh⟩ : ∃ h, w.heap.size = h := ⟨_, rfl⟩
  obtain ⟨n, hne⟩ : ∃ n, gs.length = n := ⟨_, rfl⟩
  obtain ⟨m, hme⟩ : ∃ m, ps.length = m := ⟨_, rfl⟩
  rw [hne] at HSG HLG hn ⊢
  rw [hme] at HSP HLP hm ⊢
  have bF := ((Blk.new w #[.int .i64 em, .slice ag n ca, .slice ap m cb] 25 hh).alloc (.cells #[.int .i64 0, .slice none 0 0, .slice none 0 0] 25)).alloc (.cells #[.int .i64 em, .slice none 0 0, .slice none 0 0] 25)
  have bR := (Blk.new (w.alloc (.cells #[.int .i64 em, .slice ag n ca, .slice ap m cb] 25)) #[.int .i64 0, .slice none 0 0, .slice none 0 0] 25 (k := h + 1) (by simp [hh])).alloc (.cells #[.int .i64 em, .slice none 0 0, .slice none 0 0] 25)
  have bX := Blk.new ((w.alloc (.cells #[.int .i64 em, .slice ag n ca, .slice ap m cb] 25)).alloc (.cells #[.int .i64 0, .slice none 0 0, .slice none 0 0] 25)) #[.int .i64 em, .slice none 0 0, .slice none 0 0] 25 (k := h + 1 + 1) (by simp [hh])
  have hB0 : Below h w (((w.alloc (.cells #[.int .i64 em, .slice ag n ca, .slice ap m cb] 25)).alloc (.cells #[.int .i64 0, .slice none 0 0, .slice none 0 0] 25)).alloc (.cells #[.int .i64 em, .slice none 0 0, .slice none 0 0] 25)) := by
    rw [← hh]; exact (((Below.refl _ w).alloc (Nat.le_refl _) _).alloc (by simp) _).alloc (by simp; omega) _
  have HS0 : Hid (LS h w em [.int .i64 em, .slice ag n ca, .slice ap m cb] _ (.slice none 0 0) (.slice none 0 0) 0 [] 0 []) := hid ⟨bF, bR, bX, World.ownsRow_nil _ _ _ _, World.ownsRow_nil _ _ _ _, hB0⟩
  have HW := hid hh
  rw [hh] at HSG HSP ⊢
  have hgi : (n : Int) ≤ 2147483647 := by omega
  have hpi : (m : Int) ≤ 2147483647 := by omega
  clear bF bR bX hB0 sg sp hne hme
  go_enter Try.func9, Try.ntmps9
  have HR1 := hid HS0.out.r1
  have HSL := hid (HSG.out _ HS0.out.bel)
  have hF1 := HS0.out.bf.cell 1
  go_wp2_with (at_builtin; refine wpList_append_sl _ rfl _ _ 22 rfl h 45 i45 _ 4 32 Try.underlying22 hi45 z450 z451 z452 rfl (by decide) _ _ _ rfl HR1.out ag n ca (gs.flatMap cg) rfl HLG.out HSL.out (cg_one gs) ?q1 ?q2 ?q3 ?_)
  case q1 => unfold maxLen; omega
  case q2 => omega
  case q3 => have := HS0.out.bel.size; omega
  intro v1 w1 hown hgrew
  obtain ⟨⟨c1, c2⟩, s2⟩ := HS0.out.glyph hown hgrew.grown
  obtain ⟨av, cv, rfl, _, _⟩ := row_reads hown
  have cX := c2.cell 1
  have fX := c2.froz 1
  clear hown hgrew c1 c2 hF1 HS0 HR1 HSL
  have HS2 := hid s2
  clear s2
  have HA2 := hid (HS2.out.alloc (.cells #[.int .i64 (-77), .int .i64 0, .int .i64 0, .int .i64 0] 45))
  have HN2 : Hid _ := hid (sl_new (w1.setCell ⟨h + 1 + 1, 1, none⟩ (.slice av n cv)) (cg (-77, 0, 0, 0)) 45 (k := w1.heap.size) (n := 1) (by simp))
  go_wp2_with (at_builtin; refine wpList_append_sl _ rfl _ _ 22 rfl h 45 i45 _ 4 32 Try.underlying22 hi45 z450 z451 z452 rfl (by decide) _ _ _ rfl HA2.out.r1 (some ⟨w1.heap.size, 0, none⟩) 1 1 (cg (-77, 0, 0, 0)) rfl rfl HN2.out (by simp [cg, Value.oneCell']) ?q1 ?q2 ?q3 ?_)
  case q1 => unfold maxLen; omega
  case q2 => omega
  case q3 => have := HA2.out.bel.size; omega
  intro v2 w2 hown hgrew
  obtain ⟨⟨d1, d2⟩, s3⟩ := HA2.out.glyph hown hgrew.grown
  obtain ⟨bg, c, rfl⟩ := ownsRow_succ hown
  have e0 := d1.cell 1
  have e1 := d1.cell 2
  have x0 := d2.cell 0
  have x1 := d2.cell 1
  have x2 := d2.cell 2
  have g1 := d2.froz 1
  clear hown hgrew d1 d2 HS2 HA2 HN2 cX fX
  have HS3 := hid s3
  clear s3
  have HSL := hid (HSP.out _ HS3.out.bel)
  go_wp2_with (at_builtin; refine wpList_append_sl _ rfl _ _ 23 rfl h 52 i52 _ 5 40 Try.underlying23 hi52 z520 z521 z522 rfl (by decide) _ _ _ rfl HS3.out.r2 ap m cb (ps.flatMap cp) rfl HLP.out HSL.out (cp_one ps) ?q1 ?q2 ?q3 ?_)
  case q1 => unfold maxLen; omega
  case q2 => omega
  case q3 => have := HS3.out.bel.size; omega
  intro v3 w3 hown hgrew
  obtain ⟨⟨d1, d2⟩, s4⟩ := HS3.out.pair hown hgrew.grown
  obtain ⟨aw, cw, rfl, _, _⟩ := row_reads hown
  clear e0 e1 x0 x1 x2 g1
  have x0 := d2.cell 0
  have x1 := d2.cell 1
  have x2 := d2.cell 2
  have g1 := d2.froz 2
  clear hown hgrew d1 d2 HS3 HSL
  have HS4 := hid s4
  clear s4
  have HA4 := hid (HS4.out.alloc (.cells #[.int .i64 (-77), .int .i64 0, .bool false, .int .i64 0, .int .i64 0] 52))
  have HN4 : Hid _ := hid (sl_new (w3.setCell ⟨h + 1 + 1, 2, none⟩ (.slice aw m cw)) (cp (-77, 0, false, 0, 0)) 52 (k := w3.heap.size) (n := 1) (by simp))
  go_wp2_with (at_builtin; refine wpList_append_sl _ rfl _ _ 23 rfl h 52 i52 _ 5 40 Try.underlying23 hi52 z520 z521 z522 rfl (by decide) _ _ _ rfl HA4.out.r2 (some ⟨w3.heap.size, 0, none⟩) 1 1 (cp (-77, 0, false, 0, 0)) rfl rfl HN4.out (by simp [cp, Value.oneCell']) ?q1 ?q2 ?q3 ?_)
  case q1 => unfold maxLen; omega
  case q2 => omega
  case q3 => have := HA4.out.bel.size; omega
  intro v4 w4 hown hgrew
  obtain ⟨⟨d1, d2⟩, s5⟩ := HA4.out.pair hown hgrew.grown
  obtain ⟨bp, d, rfl⟩ := ownsRow_succ hown
  clear x0 x1 x2 g1
  have e0 := d1.cell 1
  have e1 := d1.cell 2
  have x0 := d2.cell 0
  have x1 := d2.cell 1
  have x2 := d2.cell 2
  have g1 := d2.froz 1
  have g2 := d2.froz 2
  clear hown hgrew d1 d2 HS4 HA4 HN4
  have HS5 := hid s5
  clear s5
  obtain ⟨hnc, hmd⟩ : n + 1 ≤ c ∧ m + 1 ≤ d := by
    refine ⟨?_, ?_⟩
    · rcases HS5.out.r1.2 with ⟨e, _⟩ | ⟨_, _, _, e, _, _, h5, _⟩
      · cases e
      · cases e; exact h5
    · rcases HS5.out.r2.2 with ⟨e, _⟩ | ⟨_, _, _, e, _, _, h5, _⟩
      · cases e
      · cases e; exact h5
  have hnc1 : n ≤ c := by omega
  have hmd1 : m ≤ d := by omega
  have hnc2 : (n : Int) ≤ (c : Int) := by omega
  have hmd2 : (m : Int) ≤ (d : Int) := by omega
  have r0 : (w4.setCell ⟨h + 1 + 1, 2, none⟩ (.slice (some ⟨bp, 0, none⟩) (m + 1) d)).cell? ⟨h + 1, 0, none⟩ = some (.int .i64 0) := HS5.out.br.cell 0
  have r1 : (w4.setCell ⟨h + 1 + 1, 2, none⟩ (.slice (some ⟨bp, 0, none⟩) (m + 1) d)).cell? ⟨h + 1, 1, none⟩ = some (.slice none 0 0) := HS5.out.br.cell 1
  have r2 : (w4.setCell ⟨h + 1 + 1, 2, none⟩ (.slice (some ⟨bp, 0, none⟩) (m + 1) d)).cell? ⟨h + 1, 2, none⟩ = some (.slice none 0 0) := HS5.out.br.cell 2
  have s0 := HS5.out.br.froz 0
  have s1 := HS5.out.br.froz 1
  have s2 := HS5.out.br.froz 2
  go_wp2_with fail
  have ho : Only [h + 1 + 1, h + 1] (w4.setCell ⟨h + 1 + 1, 2, none⟩ (.slice (some ⟨bp, 0, none⟩) (m + 1) d)) (((((w4.setCell ⟨h + 1 + 1, 2, none⟩ (.slice (some ⟨bp, 0, none⟩) (m + 1) d)).setCell ⟨h + 1 + 1, 1, none⟩ (.slice (some ⟨bg, 0, none⟩) n c)).setCell ⟨h + 1 + 1, 2, none⟩ (.slice (some ⟨bp, 0, none⟩) m d)).setCell ⟨h + 1, 0, none⟩ (.int .i64 em)).setCell ⟨h + 1, 1, none⟩ (.slice (some ⟨bg, 0, none⟩) n c) |>.setCell ⟨h + 1, 2, none⟩ (.slice (some ⟨bp, 0, none⟩) m d)) :=
    (((((Only.refl _ _).set (p := ⟨h + 1 + 1, 1, none⟩) (.inl (by simp)) _).set (p := ⟨h + 1 + 1, 2, none⟩) (.inl (by simp)) _).set (p := ⟨h + 1, 0, none⟩) (.inl (by simp)) _).set (p := ⟨h + 1, 1, none⟩) (.inl (by simp)) _).set (p := ⟨h + 1, 2, none⟩) (.inl (by simp)) _
  have hR := ((((HS5.out.br.other ⟨h + 1 + 1, 1, none⟩ (.slice (some ⟨bg, 0, none⟩) n c) (by simp)).other ⟨h + 1 + 1, 2, none⟩ (.slice (some ⟨bp, 0, none⟩) m d) (by simp)).set 0 (.int .i64 em)).set 1 (.slice (some ⟨bg, 0, none⟩) n c)).set 2 (.slice (some ⟨bp, 0, none⟩) m d)
  refine bodyPost_ret (results9 hR rfl) rfl ⟨bg, c, bp, d, rfl, ?_, ?_, ?_⟩
  · exact row_keep HS5.out.r1 ho (fun b e hb => by
      simp only [List.mem_cons, List.not_mem_nil, or_false] at hb
      rcases hb with rfl | rfl
      · exact blk_not_row HS5.out.bx HS5.out.r1 (by decide) e
      · exact blk_not_row HS5.out.br HS5.out.r1 (by decide) e)
  · exact row_keep HS5.out.r2 ho (fun b e hb => by
      simp only [List.mem_cons, List.not_mem_nil, or_false] at hb
      rcases hb with rfl | rfl
      · exact blk_not_row HS5.out.bx HS5.out.r2 (by decide) e
      · exact blk_not_row HS5.out.br HS5.out.r2 (by decide) e)
  · exact HS5.out.bel.trans (ho.toBelow (by have := HS5.out.bel.size; have := HW.out; omega) (by intro k hk; simp only [List.mem_cons, List.not_mem_nil, or_false] at hk; omega))
end Go.Proofs.Ytnplplhhldpgmaa
