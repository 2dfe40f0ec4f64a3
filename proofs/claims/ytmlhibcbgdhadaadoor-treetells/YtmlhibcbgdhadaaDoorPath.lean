/- A node's path: the closure that calls itself; Index. -/
import Derived.Test.YtmlhibcbgdhadaaDoorNode
namespace Go.Proofs.YtmlhibcbgdhadaaDoor
open Go.RowKit

def iv (k : Nat) : Value := .int .i64 (k : Int)
def ivs (l : List Nat) : List Value := l.map iv
theorem ivs_len (l : List Nat) : (ivs l).length = l.length := by simp [ivs]
theorem ivs_app (a b : List Nat) : ivs (a ++ b) = ivs a ++ ivs b := by simp [ivs]
theorem info3 : (Tryd.prog.info? 3).map (fun i => (i.zero, i.size, i.bytes)) = some (some (.int .i64 0), 1, 8) := by kernel_rfl

/-- a row of ints of one's own -/
def RI (w : World) (B : Nat) (v : Value) (l : List Nat) : Prop := w.ownsRow B 3 1 v l.length (ivs l)

set_option maxRecDepth 100000 in
set_option maxHeartbeats 4000000 in
theorem to_any {xs : List (Nd × Value)} {ad : Option Addr} {cap C tb lb wb B : Nat} {m : Nat} (hp : PN (nds xs) m) (hm : m ≤ xs.length) (hlen : xs.length ≤ 4294967296) :
    ∀ (n : Nat), n < m → ∀ (w : World) (v : Value) (pre : List Nat), NL w C ad xs → C ≤ B → B ≤ w.heap.size → B ≤ wb → wb ≠ tb → wb ≠ lb → B ≤ tb → B ≤ lb → Blk w tb [.func (.func 64) #[] #[.pointer (some ⟨tb, 0, none⟩), .pointer (some ⟨lb, 0, none⟩), .pointer (some ⟨wb, 0, none⟩)]] 55 → Blk w lb [.slice ad xs.length cap] 22 → Blk w wb [v] 36 → RI w B v pre → pre.length ≤ 4294967296 →
    Calls Tryd.prog 64 #[.int .i64 n, .pointer (some ⟨tb, 0, none⟩), .pointer (some ⟨lb, 0, none⟩), .pointer (some ⟨wb, 0, none⟩)] w fun e w' => e = .returned (.tuple #[]) ∧
      ∃ v', Blk w' wb [v'] 36 ∧ RI w' B v' (pre ++ way (nds xs) n) ∧ Only (wb :: ob v) w w' ∧ ∀ b, v'.ownBlock = some b → v.ownBlock = some b ∨ w.heap.size ≤ b := by
  intro n
  induction n using Nat.strongRecOn with
  | _ n ih =>
    intro hnm w v pre hNL hCB hBw hBwb hwt hwl hBt hBl ht hl hwb hri hpre
    obtain ⟨x, hx⟩ := some_at (xs := xs) (i := n) (by omega)
    obtain ⟨b, off, rfl, hbC, hbw, hc⟩ := hNL.at_ hx
    have c1 := hc 1 _ rfl
    have hpx : np (nds xs) n = x.1.par := np_of (nds_get hx)
    have hpn := hp n hnm
    obtain ⟨i3, hi3, z30, z31, z32⟩ := info_parts info3
    have hn1 : ¬ (n : Int) = -1 := by omega
    have hn0 : (0 : Int) ≤ (n : Int) := by omega
    have hnl : (n : Int) < (xs.length : Int) := by omega
    have t0 := ht.cell 0
    have l0 := hl.cell 0
    simp only [List.getElem?_cons_zero] at t0 l0
    -- what the call for the Parent does
    have HP : Hid (∃ (pv : Int) (v1 : Value) (pw : List Nat), x.1.par = pv ∧ way (nds xs) n = pw ++ [n] ∧ pw.length ≤ 4294967296 ∧ Calls Tryd.prog 64 #[.int .i64 pv, .pointer (some ⟨tb, 0, none⟩), .pointer (some ⟨lb, 0, none⟩), .pointer (some ⟨wb, 0, none⟩)] w.drew fun e w' => e = .returned (.tuple #[]) ∧
        ∃ v', Blk w' wb [v'] 36 ∧ RI w' B v' (pre ++ pw) ∧ Only (wb :: ob v) w w' ∧ ∀ b, v'.ownBlock = some b → v.ownBlock = some b ∨ w.heap.size ≤ b) := by
      rcases Nat.eq_zero_or_pos n with e0 | e0
      · subst e0
        refine ⟨-1, v, [], by rw [← hpx]; exact hpn.1 rfl, way_zero hp hnm, by simp, ?_⟩
        have hb1 := hwb.drew
        have hr1 : RI w.drew B v (pre ++ []) := by rw [List.append_nil]; exact row_only hri ((Only.refl [] w).drew) (by simp)
        have ho1 : Only (wb :: ob v) w w.drew := (Only.refl _ w).drew
        have HG := hid (⟨v, hb1, hr1, ho1, fun b hb => .inl hb⟩ : ∃ v', Blk w.drew wb [v'] 36 ∧ RI w.drew B v' (pre ++ []) ∧ Only (wb :: ob v) w w.drew ∧ ∀ b, v'.ownBlock = some b → v.ownBlock = some b ∨ w.heap.size ≤ b)
        clear hb1 hr1 ho1 ih hp hm hlen hnm hNL hCB hBw hBwb hwt hwl hBt hBl ht hl hwb hri hpre hx hbC hbw hc c1 hpx hpn hn1 hn0 hnl t0 l0
        go_enter Tryd.func64, Tryd.ntmps64
        go_wp2
        exact bodyPost_ret (results_none (fn := Tryd.f64) rfl _ _ _) rfl ⟨rfl, HG.out⟩
      · have hpp := hpn.2 e0
        rw [hpx] at hpp
        obtain ⟨p, hpe⟩ : ∃ p : Nat, x.1.par = (p : Int) := ⟨x.1.par.toNat, by omega⟩
        have hway := way_pos hp hnm e0
        rw [hpx, hpe, Int.toNat_natCast] at hway
        rw [hpe] at hpp
        have hplt : p < n := by omega
        refine ⟨p, v, way (nds xs) p, hpe, hway, by have := way_len hp p (by omega); omega, ?_⟩
        have od : Only [] w w.drew := (Only.refl _ _).drew
        refine (ih p hplt (by omega) w.drew v pre (hNL.still od) hCB hBw hBwb hwt hwl hBt hBl ht.drew hl.drew hwb.drew (row_only hri od (by simp)) hpre).mono ?_
        rintro e w' ⟨rfl, v', q1, q2, q3, q4⟩
        exact ⟨rfl, v', q1, q2, (od.mono (by simp)).trans q3, q4⟩
    obtain ⟨pv, v1, pw, hpe, hway, hpwl, hcall⟩ := HP.out
    rw [hpe] at c1
    rw [hway]
    have HC := hid hcall
    have hge := row_ge hri
    have hlb1 : lb ∉ wb :: ob v := by
      intro hm2
      simp only [List.mem_cons, mem_ob] at hm2
      rcases hm2 with rfl | hm2
      · exact hwl rfl
      · exact row_not hri hl (by decide) hm2
    have htb1 : tb ∉ wb :: ob v := by
      intro hm2
      simp only [List.mem_cons, mem_ob] at hm2
      rcases hm2 with rfl | hm2
      · exact hwt rfl
      · exact row_not hri ht (by decide) hm2
    have hb1 : b ∉ wb :: ob v := by
      intro hm2
      simp only [List.mem_cons, mem_ob] at hm2
      rcases hm2 with rfl | hm2
      · omega
      · have := (hge b hm2).1; omega
    have HK : Hid (∀ w', Only (wb :: ob v) w w' → w'.cell? ⟨tb, 0, none⟩ = some (.func (.func 64) #[] #[.pointer (some ⟨tb, 0, none⟩), .pointer (some ⟨lb, 0, none⟩), .pointer (some ⟨wb, 0, none⟩)]) ∧ w'.cell? ⟨lb, 0, none⟩ = some (.slice (some ⟨b, off, none⟩) xs.length cap) ∧ w'.cell? ⟨b, off + n * 13 + 1, none⟩ = some (.int .i64 pv)) := fun w' ho =>
      ⟨(World.cell?_of_block (a := ⟨tb, 0, none⟩) (ho.block tb ht.lt htb1)).trans t0, (World.cell?_of_block (a := ⟨lb, 0, none⟩) (ho.block lb hl.lt hlb1)).trans l0, (World.cell?_of_block (a := ⟨b, off + n * 13 + 1, none⟩) (ho.block b hbw hb1)).trans c1⟩
    have hs0 := hid (HK.out w.drew (Only.refl _ w).drew)
    have HB := hid hBw
    have HPRE : Hid (pre.length ≤ 4294967296) := hpre
    clear ih hp hm hlen hnm hNL hCB hBw hBt hBl ht hl hwb hri hx hbC hbw hc hpx hpn HP hcall hway hlb1 htb1 hb1 hpre hwt hwl
    generalize xs.length = N at *
    go_enter Tryd.func64, Tryd.ntmps64
    go_wp2_with fail
    go_region_held3 (fun W => W.cell? ⟨tb, 0, none⟩ = some (.func (.func 64) #[] #[.pointer (some ⟨tb, 0, none⟩), .pointer (some ⟨lb, 0, none⟩), .pointer (some ⟨wb, 0, none⟩)]) ∧ W.cell? ⟨lb, 0, none⟩ = some (.slice (some ⟨b, off, none⟩) N cap) ∧ W.cell? ⟨b, off + n * 13 + 1, none⟩ = some (.int .i64 pv))
      (first | exact hS1 | exact hs0.out) ((go_at_call 64; refine HC.out.mono ?_; rintro e w1 ⟨rfl, v', q1, q2, q3, q4⟩; have hS1 := HK.out w1 q3))
    have HR := hid q2
    have HBK := hid q1
    have HO := hid q3
    have HW := hid q4
    have k0 := q1.cell 0
    simp only [List.getElem?_cons_zero] at k0
    have kf := q1.froz 0
    have hw0 : ¬ wb = w1.heap.size := by have := q1.lt; omega
    clear q1 q2 q3 q4 hS1
    obtain ⟨q, hq⟩ : ∃ q, (pre ++ pw).length = q := ⟨_, rfl⟩
    have hpl : q + 1 ≤ maxLen := by have := HPRE.out; rw [← hq, List.length_append]; unfold maxLen; omega
    have hpb : (q + 1) * 8 ≤ 140737488355328 := by have := HPRE.out; rw [← hq, List.length_append]; omega
    have HQ := hid hq
    clear hq
    have HW1 : Hid (B ≤ w1.heap.size) := Nat.le_trans HB.out HO.out.size
    go_wp2_with (at_builtin; refine wpList_append_sl _ rfl _ _ 36 rfl B 3 i3 _ 1 8 Tryd.underlying36 hi3 z30 z31 z32 rfl (by decide) v' q (ivs (pre ++ pw)) (by rfl) ?qc1 (some ⟨w1.heap.size, 0, none⟩) 1 1 [iv n] (by rfl) rfl ?qc2 ?qc3 hpl hpb ?qc4 ?_)
    case qc1 => rw [← HQ.out]; exact row_only HR.out ((Only.refl [] w1).alloc _) (by simp)
    case qc2 => exact sl_newest w1 [iv n] 3 rfl
    case qc3 => intro u hu; simp at hu; subst hu; rfl
    case qc4 => have := HW1.out; simp; omega
    intro v2 w6 hown hgrew
    obtain ⟨ad2, cp2, rfl, -, -⟩ := row_reads hown
    have HGR := hid hgrew
    have HOW := hid hown
    have hb6 : Blk w6 wb [v'] 36 := (hgrew.grown.block wb (by have := HBK.out.lt; simp; omega) (fun e => row_not HR.out HBK.out (by decide) e.symm)).trans (HBK.out.alloc _)
    have HB6 := hid hb6
    have k6 := hb6.froz 0
    have k6c := hb6.cell 0
    simp only [List.getElem?_cons_zero] at k6c
    clear hown hgrew hb6
    go_wp2_with fail
    have hs6 : Only [wb] w6 (w6.setCell ⟨wb, 0, none⟩ (.slice ad2 (q + 1) cp2)) := (Only.refl [wb] w6).set (.inl (by simp)) _
    refine bodyPost_end (results_none (fn := Tryd.f64) rfl _ _ _) rfl ⟨rfl, _, HB6.out.set 0 _, ?_, ?_, ?_⟩
    · have := row_only HOW.out hs6 (fun b hb hm => by simp at hm; subst hm; exact row_not HOW.out HB6.out (by decide) hb)
      unfold RI
      rw [← List.append_assoc, ivs_app (pre ++ pw), List.length_append, HQ.out]
      exact this
    · refine Only.trans (only_grow (HO.out.alloc _) HGR.out.grown (fun b hb => ?_)) (hs6.mono (fun _ _ hm => by simp at hm; simp [hm]))
      rcases HW.out b hb with h1 | h1
      · exact .inl (by simp [mem_ob, h1])
      · exact .inr h1
    · intro b hb
      rcases HGR.out with ⟨h1, -⟩ | ⟨h1, -⟩
      · rw [h1] at hb; exact HW.out b hb
      · rw [h1] at hb
        have := HO.out.size
        simp at hb
        exact .inr (by omega)

set_option maxRecDepth 100000 in
set_option maxHeartbeats 4000000 in
/-- a node's path, of nodes that stand where they may -/
theorem path_any {xs : List (Nd × Value)} {ad : Option Addr} {cap C : Nat} {m : Nat} (hp : PN (nds xs) m) (hm : m ≤ xs.length) (hlen : xs.length ≤ 4294967296) (n : Nat) (hn : n < m) (w : World) (hNL : NL w C ad xs) (hC : C ≤ w.heap.size) :
    Calls Tryd.prog 43 #[.slice ad xs.length cap, .int .i64 n] w fun e w' => ∃ v, e = .returned v ∧ RI w' w.heap.size v (way (nds xs) n) ∧ Only [] w w' := by
  have hmf : ∀ (fn : Fn) (first cap : Array Value) (w : World), (Instr.makeFunc fn first cap).run Tryd.prog w = .ok (.func fn first cap) w := fun _ _ _ _ => rfl
  have hst : ∀ (W : World) (a : Addr) (m : Mode) (f : Fn) (ts vs : Array Value), (store a (.func f ts vs) m).run Tryd.prog W = stored Tryd.prog W a (.func f ts vs) m := fun W a m f ts vs => run_store Tryd.prog W a _ m rfl
  have HT := hid (fun (W : World) => to_any (ad := ad) (cap := cap) (C := C) (tb := w.heap.size + 2) (lb := w.heap.size) (wb := w.heap.size + 1) (B := w.heap.size) hp hm hlen n hn W)
  have HNL := hid hNL
  have HC := hid hC
  clear hNL hC hp hm hlen hn
  obtain ⟨N, hN⟩ : ∃ N, xs.length = N := ⟨_, rfl⟩
  rw [hN] at HT ⊢
  clear hN
  go_enter Tryd.func43, Tryd.ntmps43
  go_wp2_with fail
  obtain ⟨W1, hW1⟩ : ∃ W1, ((w.alloc (Obj.cells #[Value.slice ad N cap] 22)).alloc (Obj.cells #[Value.slice none 0 0] 36)).alloc (Obj.cells #[.func (.func 64) #[] #[.pointer (some ⟨w.heap.size + 1 + 1, 0, none⟩), .pointer (some ⟨w.heap.size, 0, none⟩), .pointer (some ⟨w.heap.size + 1, 0, none⟩)]] 55) = W1 := ⟨_, rfl⟩
  have o1 : Only [] w W1 := by rw [← hW1]; exact (((Only.refl [] w).alloc _).alloc _).alloc _
  have b1 : Blk W1 w.heap.size [.slice ad N cap] 22 := by rw [← hW1]; exact ((Blk.new w #[.slice ad N cap] 22 rfl).alloc _).alloc _
  have b2 : Blk W1 (w.heap.size + 1) [.slice none 0 0] 36 := by rw [← hW1]; exact (Blk.new _ #[.slice none 0 0] 36 (by simp)).alloc _
  have b3 : Blk W1 (w.heap.size + 2) [.func (.func 64) #[] #[.pointer (some ⟨w.heap.size + 1 + 1, 0, none⟩), .pointer (some ⟨w.heap.size, 0, none⟩), .pointer (some ⟨w.heap.size + 1, 0, none⟩)]] 55 := by rw [← hW1]; exact Blk.new _ #[_] 55 (by simp)
  have hc := HT.out W1 (.slice none 0 0) [] (HNL.out.still o1) HC.out o1.size (by omega) (by omega) (by omega) (by omega) (by omega) b3 b1 b2 (World.ownsRow_nil _ _ _ _) (by simp)
  rw [hW1]
  refine hc.mono ?_
  rintro e w2 ⟨rfl, v', q1, q2, q3, q4⟩
  have k0 := q1.cell 0
  simp only [List.getElem?_cons_zero] at k0
  have HO : Hid (Only [] w w2) := o1.fresh q3 (fun i hi hlt => by
    simp only [List.mem_cons, mem_ob] at hi
    rcases hi with rfl | hi
    · omega
    · simp [Value.ownBlock] at hi)
  have HR := hid q2
  clear hc o1 b1 b2 b3 hW1 q1 q2 q3 q4
  go_wp2_with fail
  go_ret
  exact ⟨v', rfl, HR.out, HO.out⟩

/-! ### Index -/
/-- where it stands first, or -1 -/
def idx (l : List Nat) (x : Int) : Int := match l.findIdx? (fun (k : Nat) => (k : Int) == x) with
  | some i => i
  | none => -1
theorem ri_get {w : World} {B : Nat} {ad : Option Addr} {n c : Nat} {l : List Nat} (h : RI w B (.slice ad n c) l) : n = l.length ∧ Sl w ad l.length (ivs l) := by
  obtain ⟨ad', c', e, hs, -⟩ := row_reads h
  cases e
  exact ⟨rfl, hs⟩
theorem ivs_get {l : List Nat} {i : Nat} (h : i < l.length) : (ivs l)[i]? = some (iv l[i]) := by
  unfold ivs; rw [List.getElem?_map, List.getElem?_eq_getElem h]; rfl
set_option maxRecDepth 100000 in
set_option maxHeartbeats 4000000 in
theorem index_any {l : List Nat} {ad : Option Addr} {c : Nat} (x : Int) (w : World) (hs : Sl w ad l.length (ivs l)) (hl : l.length ≤ 4294967296) :
    Calls Tryd.prog 65 #[.slice ad l.length c, .int .i64 x] w fun e w' => e = .returned (.int .i64 (idx l x)) ∧ w' = w := by
  have HS := hid hs
  clear hs
  obtain ⟨n, hn⟩ : ∃ n, l.length = n := ⟨_, rfl⟩
  have HN := hid hn
  rw [hn] at hl ⊢
  clear hn
  go_enter Tryd.func65, Tryd.ntmps65
  go_wp2_with fail
  go_loop [8] (fun i => ∃ k : Nat, i = .int .i64 k ∧ k ≤ n ∧ Hid (∀ j y, j < k → l[j]? = some y → (y : Int) ≠ x)) (fun i => n - (RowKit.intOf i).toNat)
  case atStart => exact ⟨0, rfl, by omega, fun j y h => by omega⟩
  case round =>
    obtain ⟨k, rfl, hk, hno⟩ := hrel
    by_cases hlt : k < n
    · have hk' : k < l.length := by rw [HN.out]; exact hlt
      obtain ⟨b, off, rfl, ha⟩ := HS.out (by omega)
      have hc := ha.2 k _ (ivs_get hk')
      have hbw := ha.1
      obtain ⟨y, hy⟩ : ∃ y, l[k] = y := ⟨_, rfl⟩
      rw [hy] at hc
      unfold iv at hc
      have HY : Hid (l[k]? = some y) := by show _ = _; rw [List.getElem?_eq_getElem hk', hy]
      have h1 : (k : Int) < (n : Int) := by omega
      have h0 : (0 : Int) ≤ (k : Int) := by omega
      have HK := hid hk'
      have HLT := hid hlt
      clear hy hk' ha hlt
      by_cases hxy : x = (y : Int)
      · have HX : Hid (idx l x = (k : Int)) := by
          show _ = _
          unfold idx
          have : l.findIdx? (fun (k : Nat) => (k : Int) == x) = some k := by
            rw [List.findIdx?_eq_some_iff_getElem]
            have e := HY.out
            rw [List.getElem?_eq_getElem HK.out] at e
            refine ⟨HK.out, by rw [Option.some.inj e]; simp [hxy], fun j hj => ?_⟩
            have := hno.out j _ hj (List.getElem?_eq_getElem (Nat.lt_trans hj HK.out))
            simpa using this
          rw [this]
        have hxt : (x == (y : Int)) = true := by simp [hxy]
        clear hxy
        go_wp2_with fail
        go_ret
        exact ⟨ret_int HX.out.symm, rfl⟩
      · have hxn : (x == (y : Int)) = false := by simpa using hxy
        have HX := hid hxy
        clear hxy
        go_wp2_with fail
        go_round
        case rel =>
          refine ⟨k + 1, by go_num, HLT.out, fun j z hj hz => ?_⟩
          by_cases e : j = k
          · subst e
            have e2 := HY.out
            rw [hz] at e2
            cases e2
            exact fun q => HX.out q.symm
          · exact hno.out j z (by omega) hz
        case measure => have := HLT.out; simp [RowKit.intOf]; omega
    · have h1 : ¬ (k : Int) < (n : Int) := by omega
      have HX : Hid (idx l x = -1) := by
        show _ = _
        unfold idx
        have : l.findIdx? (fun (k : Nat) => (k : Int) == x) = none := by
          rw [List.findIdx?_eq_none_iff]
          intro y hy
          obtain ⟨j, hj, e⟩ := List.getElem_of_mem hy
          have := hno.out j y (by rw [HN.out] at hj; omega) (by rw [List.getElem?_eq_getElem hj, e])
          simpa using this
        rw [this]
      go_wp2_with fail
      go_ret
      exact ⟨ret_int HX.out.symm, rfl⟩
end Go.Proofs.YtmlhibcbgdhadaaDoor
