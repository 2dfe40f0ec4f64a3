/- spoils: whoever has a font marks its lists, and lets them grow; each reads as it was marked. -/
import Derived.Test.YtnplplhhldpgmaaStill
namespace Go.Proofs.Ytnplplhhldpgmaa
open Go.RowKit Go.Shelf

/-- a row of one's own whose first k things are those -/
def FG (W : World) (h : Nat) (e : TypeId) (size : Nat) (cel : Nat → List Value) (ad : Option Addr) (n c k : Nat) : Prop :=
  (ad = none ∧ n = 0 ∧ c = 0) ∨ ∃ b xs, ad = some ⟨b, 0, none⟩ ∧ h ≤ b ∧ Blk W b xs e ∧ xs.length = c * size ∧ n ≤ c ∧ c ≤ maxLen ∧ ∀ i, i < k → ∀ j u, (cel i)[j]? = some u → xs[i * size + j]? = some u
theorem FG.of_row {W : World} {h n c size : Nat} {e : TypeId} {ad : Option Addr} {zs : List Value} (cel : Nat → List Value) (r : W.ownsRow h e size (.slice ad n c) n zs) : FG W h e size cel ad n c 0 := by
  rcases r.2 with ⟨e1, e2⟩ | ⟨g, cap, cur, e1, hb, hh, hnc, hcm, hs, _⟩
  · cases e1; exact .inl ⟨rfl, e2, rfl⟩
  · cases e1
    exact .inr ⟨g, cur.toList, rfl, hb, by simpa [Blk] using hh, by simpa using hs, hnc, hcm, fun i hi => absurd hi (Nat.not_lt_zero _)⟩
theorem FG.row {W : World} {h n c size k : Nat} {e : TypeId} {ad : Option Addr} {cel : Nat → List Value} (hc : ∀ i, (cel i).length = size) (f : FG W h e size cel ad n c k) (hk : n ≤ k) :
    ∃ xs, W.ownsRow h e size (.slice ad n c) n xs ∧ ∀ i, i < n → ∀ j u, (cel i)[j]? = some u → xs[i * size + j]? = some u := by
  rcases f with ⟨rfl, rfl, rfl⟩ | ⟨b, xs, rfl, hb, hB, hl, hnc, hcm, hx⟩
  · exact ⟨[], World.ownsRow_nil _ _ _ _, fun i hi => absurd hi (Nat.not_lt_zero _)⟩
  · have hle : n * size ≤ c * size := Nat.mul_le_mul_right _ hnc
    refine ⟨xs.take (n * size), ⟨by rw [List.length_take]; omega, .inr ⟨b, c, xs.toArray, rfl, hb, hB, hnc, hcm, by simpa using hl, by simp⟩⟩, ?_⟩
    intro i hi j u hj
    have hjs : j < size := by rw [← hc i]; exact (List.getElem?_eq_some_iff.1 hj).1
    have : i * size + j < n * size := by
      have h1 : (i + 1) * size ≤ n * size := Nat.mul_le_mul_right _ hi
      rw [Nat.add_mul] at h1; omega
    rw [List.getElem?_take, if_pos this]
    exact hx i (by omega) j u hj
theorem FG.keep {L : List Nat} {W W' : World} {h n c size k : Nat} {e : TypeId} {ad : Option Addr} {cel : Nat → List Value} (f : FG W h e size cel ad n c k) (o : Only L W W') (hn : ∀ b, ad = some ⟨b, 0, none⟩ → b ∉ L) : FG W' h e size cel ad n c k := by
  rcases f with f | ⟨b, xs, rfl, hb, hB, h2⟩
  · exact .inl f
  · exact .inr ⟨b, xs, rfl, hb, o.blk hB (hn b rfl), h2⟩
/-- the block of a row that has an element -/
theorem FG.blk {W : World} {h n c size k : Nat} {e : TypeId} {ad : Option Addr} {cel : Nat → List Value} (f : FG W h e size cel ad n c k) (hn : n ≠ 0) : ∃ b xs, ad = some ⟨b, 0, none⟩ ∧ h ≤ b ∧ Blk W b xs e ∧ xs.length = c * size ∧ n ≤ c := by
  rcases f with ⟨_, h0, _⟩ | ⟨b, xs, h1, h2, h3, h4, h5, _⟩
  · exact absurd h0 hn
  · exact ⟨b, xs, h1, h2, h3, h4, h5⟩
/-- one thing more is stored -/
theorem FG.next {W W' : World} {h n c size k b : Nat} {e : TypeId} {cel : Nat → List Value} (hc : ∀ i, (cel i).length = size) (f : FG W h e size cel (some ⟨b, 0, none⟩) n c k)
    (hs : ∀ xs, Blk W b xs e → k * size + size ≤ xs.length → ∃ ys, Blk W' b ys e ∧ ys.length = xs.length ∧ (∀ j, (j < k * size ∨ k * size + size ≤ j) → ys[j]? = xs[j]?) ∧ ∀ j, j < size → ys[k * size + j]? = (cel k)[j]?) (hk : k < n) : FG W' h e size cel (some ⟨b, 0, none⟩) n c (k + 1) := by
  rcases f with ⟨h0, _⟩ | ⟨b', xs, e1, h2, h3, h4, h5, h6, h7⟩
  · cases h0
  · cases e1
    have hle : (k + 1) * size ≤ c * size := Nat.mul_le_mul_right _ (by omega)
    rw [Nat.add_mul, Nat.one_mul] at hle
    obtain ⟨ys, y1, y2, y3, y4⟩ := hs xs h3 (by omega)
    refine .inr ⟨b, ys, rfl, h2, y1, by rw [y2, h4], h5, h6, fun i hi j u hj => ?_⟩
    have hjs : j < size := by rw [← hc i]; exact (List.getElem?_eq_some_iff.1 hj).1
    rcases Nat.lt_or_ge i k with q | q
    · have h1 : (i + 1) * size ≤ k * size := Nat.mul_le_mul_right _ q
      rw [Nat.add_mul, Nat.one_mul] at h1
      rw [y3 _ (.inl (by omega))]
      exact h7 i q j u hj
    · have : i = k := by omega
      subst this
      rw [y4 j hjs]; exact hj
/-- a slice whose block reads so from its start -/
def FV (W : World) (h : Nat) (e : TypeId) (ad : Option Addr) (n : Nat) (xs : List Value) : Prop := n ≠ 0 → ∃ (b : Nat) (cur : List Value), ad = some ⟨b, 0, none⟩ ∧ h ≤ b ∧ Blk W b cur e ∧ ∀ (j : Nat) (u : Value), xs[j]? = some u → cur[j]? = some u
theorem FV.of_row {W : World} {h n c size : Nat} {e : TypeId} {ad : Option Addr} {xs : List Value} (r : W.ownsRow h e size (.slice ad n c) n xs) : FV W h e ad n xs := fun hn => by
  rcases r.2 with ⟨_, e2⟩ | ⟨g, cap, cur, e1, hb, hh, _, _, _, hx⟩
  · exact absurd e2 hn
  · cases e1
    refine ⟨g, cur.toList, rfl, hb, by simpa [Blk] using hh, fun j u hj => ?_⟩
    rw [← hx, List.getElem?_take] at hj
    split at hj
    · exact hj
    · cases hj
theorem FV.only {L : List Nat} {W W' : World} {h n : Nat} {e : TypeId} {ad : Option Addr} {xs : List Value} (f : FV W h e ad n xs) (o : Only L W W') (hn : ∀ b ys, Blk W b ys e → b ∉ L) : FV W' h e ad n xs := fun h0 => by
  obtain ⟨b, cur, h1, h2, h3, h4⟩ := f h0
  exact ⟨b, cur, h1, h2, o.blk h3 (hn b cur h3), h4⟩
theorem FV.alloc {W : World} {h n : Nat} {e : TypeId} {ad : Option Addr} {xs : List Value} (f : FV W h e ad n xs) (o : Obj) : FV (W.alloc o) h e ad n xs := f.only ((Only.refl [] W).alloc o) (fun _ _ _ => by simp)
theorem FV.grew {W W' : World} {h n nn mm size : Nat} {e t : TypeId} {ad : Option Addr} {xs zs zs' : List Value} {v v' : Value} (f : FV W h t ad n xs) (r : W.ownsRow h e size v nn zs) (r' : W'.ownsRow h e size v' mm zs') (g : Grew W W' v v')
    (hp : t = e → ∀ (j : Nat) (u : Value), xs[j]? = some u → zs'[j]? = some u) : FV W' h t ad n xs := fun h0 => by
  obtain ⟨b, cur, h1, h2, hB, h4⟩ := f h0
  by_cases hv : v.ownBlock = some b
  · have hte : t = e := by
      rcases r.2 with ⟨rfl, _⟩ | ⟨q, cap, cu, rfl, _, hh, _⟩
      · cases hv
      · simp only [Value.ownBlock, Option.some.injEq] at hv
        subst hv
        unfold Blk at hB
        rw [hh] at hB
        simp at hB
        exact hB.2.symm
    rcases g with ⟨g1, _⟩ | ⟨_, g2⟩
    · rw [hv] at g1
      rcases r'.2 with ⟨rfl, _⟩ | ⟨q, cap, cu, rfl, _, hh, _, _, _, hx⟩
      · cases g1
      · simp only [Value.ownBlock, Option.some.injEq] at g1
        subst g1
        subst hte
        refine ⟨q, cu.toList, h1, h2, by simpa [Blk] using hh, fun j u hj => ?_⟩
        have := hp rfl j u hj
        rw [← hx, List.getElem?_take] at this
        split at this
        · exact this
        · cases this
    · exact ⟨b, cur, h1, h2, (g2.block b hB.lt (by simp)).trans hB, h4⟩
  · exact ⟨b, cur, h1, h2, (g.grown.block b hB.lt (fun e => hv e.symm)).trans hB, h4⟩
/-- what they mark with -/
def mg (i : Nat) : List Value := [.int .i64 (-(i : Int)), .int .i64 0, .int .i64 0, .int .i64 0]
def mp (i : Nat) : List Value := [.int .i64 (-(i : Int)), .int .i64 0, .bool false, .int .i64 0, .int .i64 0]
theorem set4 (xs : List Value) (k : Nat) (hk : k + 4 ≤ xs.length) (a b c d : Value) : ∃ ys, (((xs.set k a).set (k + 1) b).set (k + 2) c).set (k + 3) d = ys ∧ ys.length = xs.length ∧ (∀ j, (j < k ∨ k + 4 ≤ j) → ys[j]? = xs[j]?) ∧ ∀ j, j < 4 → ys[k + j]? = [a, b, c, d][j]? := by
  refine ⟨_, rfl, by simp, fun j hj => ?_, fun j hj => ?_⟩
  · rw [List.getElem?_set_ne (by omega), List.getElem?_set_ne (by omega), List.getElem?_set_ne (by omega), List.getElem?_set_ne (by omega)]
  · rcases j with _ | _ | _ | _ | j
    · rw [List.getElem?_set_ne (by omega), List.getElem?_set_ne (by omega), List.getElem?_set_ne (by omega)]; simp [List.getElem?_set]; omega
    · rw [List.getElem?_set_ne (by omega), List.getElem?_set_ne (by omega)]; simp [List.getElem?_set]; omega
    · rw [List.getElem?_set_ne (by omega)]; simp [List.getElem?_set]; omega
    · simp [List.getElem?_set]; omega
    · omega
theorem set5 (xs : List Value) (k : Nat) (hk : k + 5 ≤ xs.length) (a b c d e : Value) : ∃ ys, ((((xs.set k a).set (k + 1) b).set (k + 2) c).set (k + 3) d).set (k + 4) e = ys ∧ ys.length = xs.length ∧ (∀ j, (j < k ∨ k + 5 ≤ j) → ys[j]? = xs[j]?) ∧ ∀ j, j < 5 → ys[k + j]? = [a, b, c, d, e][j]? := by
  refine ⟨_, rfl, by simp, fun j hj => ?_, fun j hj => ?_⟩
  · rw [List.getElem?_set_ne (by omega), List.getElem?_set_ne (by omega), List.getElem?_set_ne (by omega), List.getElem?_set_ne (by omega), List.getElem?_set_ne (by omega)]
  · rcases j with _ | _ | _ | _ | _ | j
    · rw [List.getElem?_set_ne (by omega), List.getElem?_set_ne (by omega), List.getElem?_set_ne (by omega), List.getElem?_set_ne (by omega)]; simp [List.getElem?_set]; omega
    · rw [List.getElem?_set_ne (by omega), List.getElem?_set_ne (by omega), List.getElem?_set_ne (by omega)]; simp [List.getElem?_set]; omega
    · rw [List.getElem?_set_ne (by omega), List.getElem?_set_ne (by omega)]; simp [List.getElem?_set]; omega
    · rw [List.getElem?_set_ne (by omega)]; simp [List.getElem?_set]; omega
    · simp [List.getElem?_set]; omega
    · omega
theorem FG.glyph {W : World} {h n c k b : Nat} (f : FG W h 45 4 mg (some ⟨b, 0, none⟩) n c k) (hk : k < n) : FG ((((W.setCell ⟨b, k * 4, none⟩ (.int .i64 (-(k : Int)))).setCell ⟨b, k * 4 + 1, none⟩ (.int .i64 0)).setCell ⟨b, k * 4 + 2, none⟩ (.int .i64 0)).setCell ⟨b, k * 4 + 3, none⟩ (.int .i64 0)) h 45 4 mg (some ⟨b, 0, none⟩) n c (k + 1) :=
  f.next (fun _ => rfl) (fun xs hx hl => by
    obtain ⟨ys, h1, h2, h3, h4⟩ := set4 xs (k * 4) hl (.int .i64 (-(k : Int))) (.int .i64 0) (.int .i64 0) (.int .i64 0)
    exact ⟨ys, by rw [← h1]; exact (((hx.set _ _).set _ _).set _ _).set _ _, h2, h3, h4⟩) hk
theorem FG.pair {W : World} {h n c k b : Nat} (f : FG W h 52 5 mp (some ⟨b, 0, none⟩) n c k) (hk : k < n) : FG ((((W.setCell ⟨b, k * 5, none⟩ (.int .i64 (-(k : Int)))).setCell ⟨b, k * 5 + 1, none⟩ (.int .i64 0)).setCell ⟨b, k * 5 + 2, none⟩ (.bool false)).setCell ⟨b, k * 5 + 3, none⟩ (.int .i64 0) |>.setCell ⟨b, k * 5 + 4, none⟩ (.int .i64 0)) h 52 5 mp (some ⟨b, 0, none⟩) n c (k + 1) :=
  f.next (fun _ => rfl) (fun xs hx hl => by
    obtain ⟨ys, h1, h2, h3, h4⟩ := set5 xs (k * 5) hl (.int .i64 (-(k : Int))) (.int .i64 0) (.bool false) (.int .i64 0) (.int .i64 0)
    exact ⟨ys, by rw [← h1]; exact ((((hx.set _ _).set _ _).set _ _).set _ _).set _ _, h2, h3, h4⟩) hk
theorem FG.ne {W : World} {h n c size k n' c' size' k' b : Nat} {e e' : TypeId} {ad : Option Addr} {cel cel' : Nat → List Value} (f : FG W h e size cel (some ⟨b, 0, none⟩) n c k) (g : FG W h e' size' cel' ad n' c' k') (hne : e ≠ e') : ∀ b', ad = some ⟨b', 0, none⟩ → b' ∉ [b] := by
  intro b' e1 hm
  rw [List.mem_singleton.1 hm] at e1
  rcases f with ⟨h0, _⟩ | ⟨q, xs, e2, _, h3, _⟩
  · cases h0
  · cases e2
    rcases g with ⟨h0, _⟩ | ⟨q', ys, e4, _, k3, _⟩
    · rw [h0] at e1; cases e1
    · rw [e1] at e4; cases e4
      exact hne (h3.same k3).2

set_option maxRecDepth 100000 in
set_option maxHeartbeats 8000000 in
theorem spoils_any (em : Int) (n m : Nat) (gv pv : Value) (zs qs : List Value) (h : Nat) (w : World) (hh : h ≤ w.heap.size) (hn : n ≤ 2147483647) (hm : m ≤ 2147483647) (rg : w.ownsRow h 45 4 gv n zs) (rp : w.ownsRow h 52 5 pv m qs) :
    Calls Try.prog 28 #[.agg #[.int .i64 em, gv, pv]] w fun e w' => e = .returned (.bool true) ∧ Below h w w' := by
  obtain ⟨ag, c, rfl, _, _⟩ := row_reads rg
  obtain ⟨ap, d, rfl, _, _⟩ := row_reads rp
  obtain ⟨i45, hi45, z450, z451, z452⟩ := info_parts info45
  obtain ⟨i52, hi52, z520, z521, z522⟩ := info_parts info52
  have G0 : FG w h 45 4 mg ag n c 0 := FG.of_row mg rg
  have P0 : FG w h 52 5 mp ap m d 0 := FG.of_row mp rp
  have hni : (n : Int) ≤ 2147483647 := by omega
  have hmi : (m : Int) ≤ 2147483647 := by omega
  have ho0 := (Only.refl [] w).alloc (.cells #[.int .i64 em, .slice ag n c, .slice ap m d] 25)
  have HB0 : Hid (Below h w (w.alloc (.cells #[.int .i64 em, .slice ag n c, .slice ap m d] 25))) := hid ((Below.refl h w).alloc hh _)
  have HF0 := hid (Blk.new w #[.int .i64 em, .slice ag n c, .slice ap m d] 25 rfl)
  have HG0 := hid (G0.keep ho0 (fun _ _ => by simp))
  have HP0 := hid (P0.keep ho0 (fun _ _ => by simp))
  have HHW := hid hh
  obtain ⟨F, hF⟩ : ∃ F, w.heap.size = F := ⟨_, rfl⟩
  rw [hF] at HF0 hh
  clear rg rp G0 P0 ho0
  have HHF := hid hh
  go_enter Try.func28, Try.ntmps28
  go_wp2_with fail
  clear hF
  go_loopw [3] (fun vi wr => ∃ k : Nat, vi = .int .i64 k ∧ k ≤ n ∧ Below h w wr ∧ Blk wr F [.int .i64 em, .slice ag n c, .slice ap m d] 25 ∧ FG wr h 45 4 mg ag n c k ∧ FG wr h 52 5 mp ap m d 0) (fun vi _ => n - (RowKit.intOf vi).toNat)
  case atStart => exact ⟨0, rfl, by omega, HB0.out, HF0.out, HG0.out, HP0.out⟩
  case round =>
    obtain ⟨k, rfl, hk, hb, hf, hg, hp⟩ := hrel
    have HB1 := hid hb
    have HF1 := hid hf
    have HG1 := hid hg
    have HP1 := hid hp
    have k1 : wr.cell? ⟨F, 1, none⟩ = some (.slice ag n c) := hf.cell 1
    clear HB0 HF0 HG0 HP0 hb hf hp
    by_cases hlt : k < n
    · obtain ⟨b, xs, rfl, hhb, hB, hl, hnc⟩ := hg.blk (by omega)
      have hlx : k * 4 + 4 ≤ xs.length := by have : (k + 1) * 4 ≤ c * 4 := Nat.mul_le_mul_right _ (by omega); omega
      obtain ⟨u0, z0⟩ : ∃ u, wr.cell? ⟨b, k * 4, none⟩ = some u := ⟨_, (hB.cell _).trans (List.getElem?_eq_getElem (by omega))⟩
      obtain ⟨u1, z1⟩ : ∃ u, wr.cell? ⟨b, k * 4 + 1, none⟩ = some u := ⟨_, (hB.cell _).trans (List.getElem?_eq_getElem (by omega))⟩
      obtain ⟨u2, z2⟩ : ∃ u, wr.cell? ⟨b, k * 4 + 2, none⟩ = some u := ⟨_, (hB.cell _).trans (List.getElem?_eq_getElem (by omega))⟩
      obtain ⟨u3, z3⟩ : ∃ u, wr.cell? ⟨b, k * 4 + 3, none⟩ = some u := ⟨_, (hB.cell _).trans (List.getElem?_eq_getElem (by omega))⟩
      have f0 := hB.froz (k * 4)
      have f1 := hB.froz (k * 4 + 1)
      have f2 := hB.froz (k * 4 + 2)
      have f3 := hB.froz (k * 4 + 3)
      have hli : (k : Int) < (n : Int) := by omega
      have hl0 : (0 : Int) ≤ (k : Int) := by omega
      have HFB : Hid (b ≠ F) := hid (by rintro rfl; exact absurd (hB.same HF1.out).2 (by decide))
      clear hg hB hl hlx
      go_wp2_with fail
      have ho : Only [b] wr ((((wr.setCell ⟨b, k * 4, none⟩ (.int .i64 (-(k : Int)))).setCell ⟨b, k * 4 + 1, none⟩ (.int .i64 0)).setCell ⟨b, k * 4 + 2, none⟩ (.int .i64 0)).setCell ⟨b, k * 4 + 3, none⟩ (.int .i64 0)) :=
        ((((Only.refl [b] wr).set (p := ⟨b, k * 4, none⟩) (.inl (by simp)) _).set (p := ⟨b, k * 4 + 1, none⟩) (.inl (by simp)) _).set (p := ⟨b, k * 4 + 2, none⟩) (.inl (by simp)) _).set (p := ⟨b, k * 4 + 3, none⟩) (.inl (by simp)) _
      refine ⟨⟨k + 1, by go_num, by omega, HB1.out.trans (ho.toBelow (Nat.le_trans HHW.out HB1.out.size) (by intro q hq; rw [List.mem_singleton.1 hq]; exact hhb)), ho.blk HF1.out (by simpa using (Ne.symm HFB.out)), HG1.out.glyph hlt, HP1.out.keep ho (HG1.out.ne HP1.out (by decide))⟩, ?_⟩
      simp [RowKit.intOf]; omega
    · have hkn : ¬ (k : Int) < (n : Int) := by omega
      have hke : k = n := by omega
      have HG2 : Hid (FG wr h 45 4 mg ag n c n) := hid (by have := HG1.out; rwa [hke] at this)
      have HKE := hid hke
      clear hg HG1 hke
      go_wp2_with fail
      clear hkn k1
      go_loopw [4] (fun vi wr => ∃ k : Nat, vi = .int .i64 k ∧ k ≤ m ∧ Below h w wr ∧ Blk wr F [.int .i64 em, .slice ag n c, .slice ap m d] 25 ∧ FG wr h 45 4 mg ag n c n ∧ FG wr h 52 5 mp ap m d k) (fun vi _ => m - (RowKit.intOf vi).toNat)
      case atStart => exact ⟨0, rfl, by omega, HB1.out, HF1.out, HG2.out, HP1.out⟩
      case round =>
        obtain ⟨k2, rfl, hk2, hb, hf, hg, hp⟩ := hrel
        clear HB1 HF1 HG2 HP1
        have HB1 := hid hb
        have HF1 := hid hf
        have HG1 := hid hg
        have HP1 := hid hp
        have k1 : wr.cell? ⟨F, 2, none⟩ = some (.slice ap m d) := hf.cell 2
        clear hb hf hg
        by_cases hlt2 : k2 < m
        · obtain ⟨b, xs, rfl, hhb, hB, hl, hnc⟩ := hp.blk (by omega)
          have hlx : k2 * 5 + 5 ≤ xs.length := by have : (k2 + 1) * 5 ≤ d * 5 := Nat.mul_le_mul_right _ (by omega); omega
          obtain ⟨u0, z0⟩ : ∃ u, wr.cell? ⟨b, k2 * 5, none⟩ = some u := ⟨_, (hB.cell _).trans (List.getElem?_eq_getElem (by omega))⟩
          obtain ⟨u1, z1⟩ : ∃ u, wr.cell? ⟨b, k2 * 5 + 1, none⟩ = some u := ⟨_, (hB.cell _).trans (List.getElem?_eq_getElem (by omega))⟩
          obtain ⟨u2, z2⟩ : ∃ u, wr.cell? ⟨b, k2 * 5 + 2, none⟩ = some u := ⟨_, (hB.cell _).trans (List.getElem?_eq_getElem (by omega))⟩
          obtain ⟨u3, z3⟩ : ∃ u, wr.cell? ⟨b, k2 * 5 + 3, none⟩ = some u := ⟨_, (hB.cell _).trans (List.getElem?_eq_getElem (by omega))⟩
          obtain ⟨u4, z4⟩ : ∃ u, wr.cell? ⟨b, k2 * 5 + 4, none⟩ = some u := ⟨_, (hB.cell _).trans (List.getElem?_eq_getElem (by omega))⟩
          have f0 := hB.froz (k2 * 5)
          have f1 := hB.froz (k2 * 5 + 1)
          have f2 := hB.froz (k2 * 5 + 2)
          have f3 := hB.froz (k2 * 5 + 3)
          have f4 := hB.froz (k2 * 5 + 4)
          have hli : (k2 : Int) < (m : Int) := by omega
          have hl0 : (0 : Int) ≤ (k2 : Int) := by omega
          have HFB : Hid (b ≠ F) := hid (by rintro rfl; exact absurd (hB.same HF1.out).2 (by decide))
          clear hp hB hl hlx
          go_wp2_with fail
          have ho : Only [b] wr (((((wr.setCell ⟨b, k2 * 5, none⟩ (.int .i64 (-(k2 : Int)))).setCell ⟨b, k2 * 5 + 1, none⟩ (.int .i64 0)).setCell ⟨b, k2 * 5 + 2, none⟩ (.bool false)).setCell ⟨b, k2 * 5 + 3, none⟩ (.int .i64 0)).setCell ⟨b, k2 * 5 + 4, none⟩ (.int .i64 0)) :=
            (((((Only.refl [b] wr).set (p := ⟨b, k2 * 5, none⟩) (.inl (by simp)) _).set (p := ⟨b, k2 * 5 + 1, none⟩) (.inl (by simp)) _).set (p := ⟨b, k2 * 5 + 2, none⟩) (.inl (by simp)) _).set (p := ⟨b, k2 * 5 + 3, none⟩) (.inl (by simp)) _).set (p := ⟨b, k2 * 5 + 4, none⟩) (.inl (by simp)) _
          refine ⟨⟨k2 + 1, by go_num, by omega, HB1.out.trans (ho.toBelow (Nat.le_trans HHW.out HB1.out.size) (by intro q hq; rw [List.mem_singleton.1 hq]; exact hhb)), ho.blk HF1.out (by simpa using (Ne.symm HFB.out)), HG1.out.keep ho (HP1.out.ne HG1.out (by decide)), HP1.out.pair hlt2⟩, ?_⟩
          simp [RowKit.intOf]; omega
        · have hkn : ¬ (k2 : Int) < (m : Int) := by omega
          have hke : k2 = m := by omega
          have HP2 : Hid (FG wr h 52 5 mp ap m d m) := hid (by have := HP1.out; rwa [hke] at this)
          have k0 : wr.cell? ⟨F, 1, none⟩ = some (.slice ag n c) := HF1.out.cell 1
          clear hp HP1 hke
          go_wp2_with fail
          clear hkn k1 k0
          obtain ⟨gs0, hgr, hgx⟩ := FG.row (size := 4) (cel := mg) (fun _ => rfl) HG1.out (Nat.le_refl n)
          obtain ⟨ps0, hpr, hpx⟩ := FG.row (size := 5) (cel := mp) (fun _ => rfl) HP2.out (Nat.le_refl m)
          have HGR := hid hgr
          have HPR := hid hpr
          have HGX := hid hgx
          have HPX := hid hpx
          clear hgr hpr hgx hpx HG1 HP2
          go_loopw [5, 6, 7] (fun va vb vi wr => ∃ (i : Nat) (ys1 ys2 : List Value), vi = .int .i64 i ∧ i ≤ 9 ∧ wr.ownsRow h 45 4 va (n + i) (gs0 ++ ys1) ∧ wr.ownsRow h 52 5 vb (m + i) (ps0 ++ ys2) ∧ FV wr h 45 ag n gs0 ∧ FV wr h 52 ap m ps0 ∧ Below h w wr ∧ Blk wr F [.int .i64 em, .slice ag n c, .slice ap m d] 25) (fun _ _ vi _ => 9 - (RowKit.intOf vi).toNat)
          case atStart => exact ⟨0, [], [], rfl, by omega, by simpa using HGR.out, by simpa using HPR.out, FV.of_row HGR.out, FV.of_row HPR.out, HB1.out, HF1.out⟩
          case round =>
            obtain ⟨i, ys1, ys2, rfl, hi, r1, r2, v1, v2, hb, hf⟩ := hrel
            clear HB1 HF1 HGR HPR
            obtain ⟨ad1, cc1, rfl, _, _⟩ := row_reads r1
            obtain ⟨ad2, cc2, rfl, _, _⟩ := row_reads r2
            by_cases hi9 : i < 9
            · have HR1 := hid (r1.alloc (.cells (cg (-9000, 0, 0, 0)).toArray 45))
              have HR2 := hid (r2.alloc (.cells (cg (-9000, 0, 0, 0)).toArray 45))
              have HV1 := hid (v1.alloc (.cells (cg (-9000, 0, 0, 0)).toArray 45))
              have HV2 := hid (v2.alloc (.cells (cg (-9000, 0, 0, 0)).toArray 45))
              have HB1 := hid (hb.alloc (Nat.le_trans HHW.out hb.size) (.cells (cg (-9000, 0, 0, 0)).toArray 45))
              have HF1 := hid (hf.alloc (.cells (cg (-9000, 0, 0, 0)).toArray 45))
              have HN1 := hid (sl_new wr (cg (-9000, 0, 0, 0)) 45 (k := wr.heap.size) (n := 1) rfl)
              have hii : (i : Int) < 9 := by omega
              clear r1 r2 v1 v2 hb hf
              simp only [cg] at HR1 HR2 HV1 HV2 HB1 HF1 HN1
              go_wp2_with (at_builtin; refine wpList_append_sl _ rfl _ _ 22 rfl h 45 i45 _ 4 32 Try.underlying22 hi45 z450 z451 z452 rfl (by decide) _ _ _ rfl HR1.out (some ⟨wr.heap.size, 0, none⟩) 1 1 [.int .i64 (-9000), .int .i64 0, .int .i64 0, .int .i64 0] rfl rfl HN1.out (by simp [Value.oneCell']) ?q1 ?q2 ?q3 ?_)
              case q1 => unfold maxLen; omega
              case q2 => omega
              case q3 => exact Nat.le_trans HHW.out HB1.out.size
              intro va w1 hown hgrew
              have hpre : ∀ (zs ys : List Value) (j : Nat) (u : Value), zs[j]? = some u → (zs ++ ys)[j]? = some u := fun zs ys j u hj => by
                rw [List.getElem?_append_left (List.getElem?_eq_some_iff.1 hj).1]; exact hj
              have HPRE := hid hpre
              clear hpre
              obtain ⟨g1, cq1, rfl⟩ := ownsRow_succ hown
              try rw [List.append_assoc] at hown
              have HW1 := hid hown
              have HW2 : Hid (w1.ownsRow h 52 5 (.slice ad2 (m + i) cc2) (m + i) (ps0 ++ ys2)) := hid (HR2.out.kept hgrew.grown (row_not_row HR2.out HR1.out (by decide)))
              have HWV1 := hid (HV1.out.grew HR1.out hown hgrew (fun _ => HPRE.out _ _))
              have HWV2 := hid (HV2.out.grew HR1.out hown hgrew (fun e => absurd e (by decide)))
              have HWF := hid (row_far HF1.out HR1.out hgrew.grown (by decide))
              have HWB : Hid (Below h w w1) := hid (HB1.out.grown hgrew.grown (Nat.le_trans HHW.out HB1.out.size) (fun q hq => (HR1.out.lt q hq).1))
              clear hown hgrew HR1 HR2 HV1 HV2 HF1 HB1 HN1
              have HR1 := hid (HW1.out.alloc (.cells (cp (-9000, 0, false, 0, 0)).toArray 52))
              have HR2 := hid (HW2.out.alloc (.cells (cp (-9000, 0, false, 0, 0)).toArray 52))
              have HV1 := hid (HWV1.out.alloc (.cells (cp (-9000, 0, false, 0, 0)).toArray 52))
              have HV2 := hid (HWV2.out.alloc (.cells (cp (-9000, 0, false, 0, 0)).toArray 52))
              have HB1 := hid (HWB.out.alloc (Nat.le_trans HHW.out HWB.out.size) (.cells (cp (-9000, 0, false, 0, 0)).toArray 52))
              have HF1 := hid (HWF.out.alloc (.cells (cp (-9000, 0, false, 0, 0)).toArray 52))
              have HN1 := hid (sl_new w1 (cp (-9000, 0, false, 0, 0)) 52 (k := w1.heap.size) (n := 1) rfl)
              simp only [cp] at HR1 HR2 HV1 HV2 HB1 HF1 HN1
              clear HW1 HW2 HWV1 HWV2 HWF HWB
              go_wp2_with (at_builtin; refine wpList_append_sl _ rfl _ _ 23 rfl h 52 i52 _ 5 40 Try.underlying23 hi52 z520 z521 z522 rfl (by decide) _ _ _ rfl HR2.out (some ⟨w1.heap.size, 0, none⟩) 1 1 [.int .i64 (-9000), .int .i64 0, .bool false, .int .i64 0, .int .i64 0] rfl rfl HN1.out (by simp [Value.oneCell']) ?q1 ?q2 ?q3 ?_)
              case q1 => unfold maxLen; omega
              case q2 => omega
              case q3 => exact Nat.le_trans HHW.out HB1.out.size
              intro vb w2 hown hgrew
              obtain ⟨g2, cq2, rfl⟩ := ownsRow_succ hown
              try rw [List.append_assoc] at hown
              have HW2 := hid hown
              have HW1 : Hid (w2.ownsRow h 45 4 (.slice (some ⟨g1, 0, none⟩) (n + i + 1) cq1) (n + i + 1) (gs0 ++ (ys1 ++ [.int .i64 (-9000), .int .i64 0, .int .i64 0, .int .i64 0]))) := hid (HR1.out.kept hgrew.grown (row_not_row HR1.out HR2.out (by decide)))
              have HWV1 := hid (HV1.out.grew HR2.out hown hgrew (fun e => absurd e (by decide)))
              have HWV2 := hid (HV2.out.grew HR2.out hown hgrew (fun _ => HPRE.out _ _))
              have HWF := hid (row_far HF1.out HR2.out hgrew.grown (by decide))
              have HWB : Hid (Below h w w2) := hid (HB1.out.grown hgrew.grown (Nat.le_trans HHW.out HB1.out.size) (fun q hq => (HR2.out.lt q hq).1))
              clear hown hgrew HR1 HR2 HV1 HV2 HF1 HB1 HN1
              go_wp2_with fail
              refine ⟨⟨i + 1, _, _, by go_num, by omega, HW1.out, HW2.out, HWV1.out, HWV2.out, HWB.out, HWF.out⟩, ?_⟩
              simp [RowKit.intOf]; omega
            · have hii : ¬ (i : Int) < 9 := by omega
              have HV1 := hid v1
              have HV2 := hid v2
              have HB1 := hid hb
              have HF1 := hid hf
              have k1 : wr.cell? ⟨F, 1, none⟩ = some (.slice ag n c) := hf.cell 1
              have k2c : wr.cell? ⟨F, 2, none⟩ = some (.slice ap m d) := hf.cell 2
              have gd45 := guard45
              have gd52 := guard52
              clear r1 r2 v1 v2 hb hf
              go_wp2_with fail
              go_loop [8] (fun vi => ∃ k : Nat, vi = .int .i64 k ∧ k ≤ n) (fun vi => n - (RowKit.intOf vi).toNat)
              case atStart => exact ⟨0, rfl, by omega⟩
              case round =>
                obtain ⟨k3, rfl, hk3⟩ := hrel
                by_cases hlt3 : k3 < n
                · obtain ⟨b, cur, rfl, _, hB, hx⟩ := HV1.out (by omega)
                  have z := fun j u (hj : (mg k3)[j]? = some u) => (hB.cell (k3 * 4 + j)).trans (hx _ _ (HGX.out k3 hlt3 j u hj))
                  have z0 : wr.cell? ⟨b, k3 * 4, none⟩ = some (.int .i64 (-(k3 : Int))) := z 0 _ rfl
                  have z1 : wr.cell? ⟨b, k3 * 4 + 1, none⟩ = some (.int .i64 0) := z 1 _ rfl
                  have z2 : wr.cell? ⟨b, k3 * 4 + 2, none⟩ = some (.int .i64 0) := z 2 _ rfl
                  have z3 : wr.cell? ⟨b, k3 * 4 + 3, none⟩ = some (.int .i64 0) := z 3 _ rfl
                  have hne := fun W => neqG (-(k3 : Int), 0, 0, 0) (-(k3 : Int), 0, 0, 0) W
                  simp only [cg, decide_true, Bool.not_true] at hne
                  have hli : (k3 : Int) < (n : Int) := by omega
                  have hl0 : (0 : Int) ≤ (k3 : Int) := by omega
                  clear z hB hx
                  go_wp2_with fail
                  refine ⟨⟨k3 + 1, by go_num, by omega⟩, ?_⟩
                  simp [RowKit.intOf]; omega
                · have hkn : ¬ (k3 : Int) < (n : Int) := by omega
                  go_wp2_with fail
                  clear hkn
                  go_loop [9] (fun vi => ∃ k : Nat, vi = .int .i64 k ∧ k ≤ m) (fun vi => m - (RowKit.intOf vi).toNat)
                  case atStart => exact ⟨0, rfl, by omega⟩
                  case round =>
                    obtain ⟨k4, rfl, hk4⟩ := hrel
                    by_cases hlt4 : k4 < m
                    · obtain ⟨b, cur, rfl, _, hB, hx⟩ := HV2.out (by omega)
                      have z := fun j u (hj : (mp k4)[j]? = some u) => (hB.cell (k4 * 5 + j)).trans (hx _ _ (HPX.out k4 hlt4 j u hj))
                      have z0 : wr.cell? ⟨b, k4 * 5, none⟩ = some (.int .i64 (-(k4 : Int))) := z 0 _ rfl
                      have z1 : wr.cell? ⟨b, k4 * 5 + 1, none⟩ = some (.int .i64 0) := z 1 _ rfl
                      have z2 : wr.cell? ⟨b, k4 * 5 + 2, none⟩ = some (.bool false) := z 2 _ rfl
                      have z3 : wr.cell? ⟨b, k4 * 5 + 3, none⟩ = some (.int .i64 0) := z 3 _ rfl
                      have z4 : wr.cell? ⟨b, k4 * 5 + 4, none⟩ = some (.int .i64 0) := z 4 _ rfl
                      have hne := fun W => neqP (-(k4 : Int), 0, false, 0, 0) (-(k4 : Int), 0, false, 0, 0) W
                      simp only [cp, decide_true, Bool.not_true] at hne
                      have hli : (k4 : Int) < (m : Int) := by omega
                      have hl0 : (0 : Int) ≤ (k4 : Int) := by omega
                      clear z hB hx
                      go_wp2_with fail
                      refine ⟨⟨k4 + 1, by go_num, by omega⟩, ?_⟩
                      simp [RowKit.intOf]; omega
                    · have hkn : ¬ (k4 : Int) < (m : Int) := by omega
                      go_wp2_with fail
                      go_ret
                      exact ⟨rfl, HB1.out⟩
end Go.Proofs.Ytnplplhhldpgmaa
