/- The reader's memory, kept and turned. -/
import Derived.Test.YtdinlaoimpoolaaHas
import Derived.Test.YtdinlaoimpoolaaApp
namespace Go.Proofs.Ytdinlaoimpoolaa
open Go.RowKit

theorem Rd.below {h bp r : Nat} {W W' : World} {s : St} {gv pv tv : Value} {T : Prop} (R : Rd h bp W r s gv pv tv T) (k : Below W.heap.size W W') : Rd h bp W' r s gv pv tv T :=
  ⟨R.blk.below k, R.rh, ⟨R.hb.1, by have := R.hb.2; have := k.size; omega⟩, row_below R.gr k, row_below R.pr k, R.pn, fun t => by
    obtain ⟨a, B, C, h1, h2, h3, h4⟩ := R.tb t
    exact ⟨a, B, C, h1, h2, h3, h4.below k⟩⟩
/-- cells of the reader turn, its rows don't -/
theorem Rd.only {h bp r : Nat} {W W' : World} {s s' : St} {gv pv tv : Value} {T : Prop} (R : Rd h bp W r s gv pv tv T) (k : Only [r] W W') (hB : Blk W' r (rcells s' gv pv tv) 81) (hg : s'.gs = s.gs) (hp : s'.ps = s.ps) (he : s'.em = s.em) : Rd h bp W' r s' gv pv tv T :=
  ⟨hB, R.rh, ⟨R.hb.1, by have := R.hb.2; have := k.size; omega⟩, by rw [hg]; exact row_only R.gr k (blk_not_row R.blk R.gr (by decide)), by rw [hp]; exact row_only R.pr k (blk_not_row R.blk R.pr (by decide)), R.pn, fun t => by
    obtain ⟨a, B, C, h1, h2, h3, h4⟩ := R.tb t
    refine ⟨a, B, C, h1, h2, h3, ?_⟩
    rw [hg, he]
    exact h4.keep k (fun i hi => by rw [List.mem_singleton.1 hi]; exact .inl h2)⟩
theorem Rd.cellG {h bp r : Nat} {W : World} {s : St} {gv pv tv : Value} {T : Prop} (R : Rd h bp W r s gv pv tv T) (a b c d : Int) : Rd h bp ((((W.setCell ⟨r, 9, none⟩ (.int .i64 a)).setCell ⟨r, 10, none⟩ (.int .i64 b)).setCell ⟨r, 11, none⟩ (.int .i64 c)).setCell ⟨r, 12, none⟩ (.int .i64 d)) r { s with g := (a, b, c, d) } gv pv tv T :=
  R.only (((((Only.refl [r] W).set (p := ⟨r, 9, none⟩) (.inl (by simp)) _).set (p := ⟨r, 10, none⟩) (.inl (by simp)) _).set (p := ⟨r, 11, none⟩) (.inl (by simp)) _).set (p := ⟨r, 12, none⟩) (.inl (by simp)) _)
    ((((R.blk.set 9 _).set 10 _).set 11 _).set 12 _) rfl rfl rfl
theorem Rd.cellP {h bp r : Nat} {W : World} {s : St} {gv pv tv : Value} {T : Prop} (R : Rd h bp W r s gv pv tv T) (a b : Int) (i : Bool) (c d : Int) : Rd h bp (((((W.setCell ⟨r, 13, none⟩ (.int .i64 a)).setCell ⟨r, 14, none⟩ (.int .i64 b)).setCell ⟨r, 15, none⟩ (.bool i)).setCell ⟨r, 16, none⟩ (.int .i64 c)).setCell ⟨r, 17, none⟩ (.int .i64 d)) r { s with p := (a, b, i, c, d) } gv pv tv T :=
  R.only ((((((Only.refl [r] W).set (p := ⟨r, 13, none⟩) (.inl (by simp)) _).set (p := ⟨r, 14, none⟩) (.inl (by simp)) _).set (p := ⟨r, 15, none⟩) (.inl (by simp)) _).set (p := ⟨r, 16, none⟩) (.inl (by simp)) _).set (p := ⟨r, 17, none⟩) (.inl (by simp)) _)
    (((((R.blk.set 13 _).set 14 _).set 15 _).set 16 _).set 17 _) rfl rfl rfl
/-- one cell of the reader turns -/
theorem Rd.cell {h bp r : Nat} {W : World} {s : St} {gv pv tv : Value} {T : Prop} (R : Rd h bp W r s gv pv tv T) (s' : St) (i : Nat) (v : Value) (hx : (rcells s gv pv tv).set i v = rcells s' gv pv tv) (hg : s'.gs = s.gs) (hp : s'.ps = s.ps) (he : s'.em = s.em) : Rd h bp (W.setCell ⟨r, i, none⟩ v) r s' gv pv tv T :=
  R.only ((Only.refl [r] W).set (p := ⟨r, i, none⟩) (.inl (by simp)) _) (by rw [← hx]; exact R.blk.set i v) hg hp he
/-- the meter's block turns -/
theorem Rd.apart {h bp r : Nat} {W W' : World} {s : St} {gv pv tv : Value} {T : Prop} {m : Nat} (R : Rd h bp W r s gv pv tv T) (k : Only [m] W W') (hm : m < h) : Rd h bp W' r s gv pv tv T :=
  ⟨k.blk R.blk (by have := R.rh; simp; omega), R.rh, ⟨R.hb.1, by have := R.hb.2; have := k.size; omega⟩, row_only R.gr k (fun e => by have := (R.gr.lt m e).1; omega), row_only R.pr k (fun e => by have := (R.pr.lt m e).1; have := R.hb.1; omega), R.pn, fun t => by
    obtain ⟨a, B, C, h1, h2, h3, h4⟩ := R.tb t
    refine ⟨a, B, C, h1, h2, h3, h4.keep k (fun i hi => by rw [List.mem_singleton.1 hi]; have := R.rh; exact .inl (by omega))⟩⟩
/-- the table is asked -/
theorem Rd.tg {h bp r : Nat} {W : World} {s : St} {gv pv tv : Value} {T : Prop} (R : Rd h bp W r s gv pv tv T) (t : T) : ∃ a, tv = .pointer (some ⟨a, 0, none⟩) ∧ TG W a s.gs := by
  obtain ⟨a, B, C, h1, h2, h3, h4⟩ := R.tb t
  exact ⟨a, h1, h4.tg⟩
/-- the glyphs grew -/
theorem Rd.growG {h bp r : Nat} {W w1 : World} {s : St} {gv pv tv v' : Value} (R : Rd h bp W r s gv pv tv False) {g : Gl} (ho : w1.ownsRow h 33 4 v' (s.gs.length + 1) (s.gs.flatMap cg ++ cg g)) (hg : W.grownBy w1 gv.ownBlock) :
    Blk w1 r (rcells s gv pv tv) 81 ∧ Rd h bp (w1.setCell ⟨r, 5, none⟩ v') r { s with gs := s.gs ++ [g] } v' pv tv False ∧ Below h W (w1.setCell ⟨r, 5, none⟩ v') := by
  have b1 : Blk w1 r (rcells s gv pv tv) 81 := (hg.block r R.blk.lt (fun e => blk_not_row R.blk R.gr (by decide) e.symm)).trans R.blk
  have hset : Only [r] w1 (w1.setCell ⟨r, 5, none⟩ v') := (Only.refl [r] w1).set (p := ⟨r, 5, none⟩) (.inl (by simp)) v'
  have p1 : w1.ownsRow bp 35 5 pv s.ps.length (s.ps.flatMap cp) := R.pr.kept hg (row_not_row R.pr R.gr (by decide))
  refine ⟨b1, ⟨b1.set 5 v', R.rh, ⟨R.hb.1, by have := R.hb.2; have h2 := hg.size; have h3 := hset.size; omega⟩, ?_, row_only p1 hset (blk_not_row b1 p1 (by decide)), R.pn, fun t => t.elim⟩, ?_⟩
  · have := row_only ho hset (blk_not_row b1 ho (by decide))
    simpa [List.flatMap_append] using this
  · exact (((Below.refl h W)).grown hg (by have := R.hb; omega) (fun k hk => (R.gr.lt k hk).1)).setCell (p := ⟨r, 5, none⟩) R.rh v'
/-- the pairs grew -/
theorem Rd.growP {h bp r : Nat} {W w1 : World} {s : St} {gv pv tv v' : Value} (R : Rd h bp W r s gv pv tv True) {p : Pr} (ho : w1.ownsRow bp 35 5 v' (s.ps.length + 1) (s.ps.flatMap cp ++ cp p)) (hg : W.grownBy w1 pv.ownBlock) :
    Blk w1 r (rcells s gv pv tv) 81 ∧ Rd h bp (w1.setCell ⟨r, 6, none⟩ v') r { s with ps := s.ps ++ [p] } gv v' tv True ∧ Below h W (w1.setCell ⟨r, 6, none⟩ v') := by
  have b1 : Blk w1 r (rcells s gv pv tv) 81 := (hg.block r R.blk.lt (fun e => blk_not_row R.blk R.pr (by decide) e.symm)).trans R.blk
  have hset : Only [r] w1 (w1.setCell ⟨r, 6, none⟩ v') := (Only.refl [r] w1).set (p := ⟨r, 6, none⟩) (.inl (by simp)) v'
  have p1 : w1.ownsRow h 33 4 gv s.gs.length (s.gs.flatMap cg) := R.gr.kept hg (row_not_row R.gr R.pr (by decide))
  have hbel : Below bp W w1 := (Below.refl bp W).grown hg R.hb.2 (fun k hk => (R.pr.lt k hk).1)
  refine ⟨b1, ⟨b1.set 6 v', R.rh, ⟨R.hb.1, by have := R.hb.2; have h2 := hg.size; have h3 := hset.size; omega⟩, row_only p1 hset (blk_not_row b1 p1 (by decide)), ?_, fun t => absurd trivial t, fun _ => ?_⟩, ?_⟩
  · have := row_only ho hset (blk_not_row b1 ho (by decide))
    simpa [List.flatMap_append] using this
  · obtain ⟨a, B, C, h1, h2, h3, h4⟩ := R.tb trivial
    refine ⟨a, B, C, h1, h2, h3, Tab.keep (L := [r]) ?_ hset (fun i hi => by rw [List.mem_singleton.1 hi]; exact .inl h2)⟩
    obtain ⟨ag, ca, m, k1, k2, k3, k4, k5, k6⟩ := h4.lies
    exact ⟨h4.ok, h4.pok, h4.rp, h4.gl, h4.pl, ag, ca, m, (hbel.block a (by omega)).trans k1, fun h0 => by
      obtain ⟨b, off, e, ha⟩ := k2 h0
      exact ⟨b, off, e, ha.of hbel (by have := k6 b off e; omega)⟩, (hbel.block m (by omega)).trans k3, k4, k5, k6⟩
  · exact ((hbel.mono R.hb.1)).setCell (p := ⟨r, 6, none⟩) R.rh v'
end Go.Proofs.Ytdinlaoimpoolaa
