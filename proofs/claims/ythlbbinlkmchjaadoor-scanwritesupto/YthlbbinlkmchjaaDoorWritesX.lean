/- ScanWrites' walk. -/
import Derived.Test.YthlbbinlkmchjaaDoorWrtC
import Derived.Test.YthlbbinlkmchjaaDoorGr
namespace Go.Proofs.YthlbbinlkmchjaaDoor
open Go.RowKit

theorem eqlC (a b c : Int) (w : World) : Sem.run Tryd.prog (binOp .eql 50 (.agg #[.int .i64 a, .int .i64 b, .int .i64 c]) (.agg #[.int .i64 a, .int .i64 b, .int .i64 c])) w = .ok (.bool true) w := by
  rw [run_eql_struct, equalC]; simp
set_option maxRecDepth 100000 in
set_option maxHeartbeats 4000000 in
theorem charsI_true (ys : List (Int × Int × Int)) (a1 a2 : Option Addr) (c1 c2 : Nat) (w : World) (hg : ys.length ≤ 9223372036854775807) (sa : Sl w a1 ys.length (ys.flatMap chI)) (sb : Sl w a2 ys.length (ys.flatMap chI)) :
    Calls Tryd.prog 23 #[.slice a1 ys.length c1, .slice a2 ys.length c2] w fun e w' => e = .returned (.bool true) ∧ ∃ n, w' = w.drewN n := by
  have HSA := hid (And.intro sa sb)
  obtain ⟨n, hn⟩ : ∃ n, ys.length = n := ⟨_, rfl⟩
  have HN := hid hn
  rw [hn] at hg ⊢
  clear sa sb hn
  go_enter Tryd.func23, Tryd.ntmps23
  go_wp2_with fail
  go_loopw [13] (fun vi wr => ∃ k : Nat, vi = .int .i64 k ∧ k ≤ n ∧ ∃ d, wr = w.drewN d) (fun vi _ => n - (RowKit.intOf vi).toNat)
  case atStart => exact ⟨0, rfl, by omega, 0, rfl⟩
  case round =>
    obtain ⟨k, rfl, hk, d, rfl⟩ := hrel
    by_cases hlt : k < n
    · obtain ⟨x, hgk⟩ := some_at (xs := ys) (i := k) (by rw [HN.out]; exact hlt)
      obtain ⟨b, off, rfl, hbl, e0, e1, e2⟩ := HSA.out.1.charI hgk
      obtain ⟨b', off', rfl, hbl', f0, f1, f2⟩ := HSA.out.2.charI hgk
      have hkl : (k : Int) < (n : Int) := by omega
      have hk0 : (0 : Int) ≤ (k : Int) := by omega
      have hq := neqC x.1 x.2.1 x.2.2
      have hgd := guard50
      have HLT := hid hlt
      clear hbl hbl' hgk hlt
      go_wp2_with fail
      go_quiet (fail)
      go_wp2
      go_roundw
      case rel => exact ⟨k + 1, by go_num, HLT.out, _, rfl⟩
      case measure => have := HLT.out; simp [RowKit.intOf]; omega
    · have hkl : ¬ (k : Int) < (n : Int) := by omega
      clear hlt
      go_wp2_with fail
      go_ret
      exact ⟨rfl, _, rfl⟩
theorem chI_one (l : List (Int × Int × Int)) : ∀ u ∈ l.flatMap chI, u.oneCell' = true := by
  intro u hu
  obtain ⟨x, -, hx⟩ := List.mem_flatMap.1 hu
  simp only [chI, List.mem_cons, List.not_mem_nil, or_false] at hx
  rcases hx with rfl | rfl | rfl <;> rfl
theorem row_cap {W : World} {B n size : Nat} {e : TypeId} {ad : Option Addr} {c : Nat} {xs : List Value} (h : W.ownsRow B e size (.slice ad n c) n xs) : n ≤ c := by
  rcases h.2 with ⟨hv, hn⟩ | ⟨g, cap, cur, hv, _, _, hc, _⟩
  · cases hv; omega
  · cases hv; exact hc
theorem row_none (w : World) {B : Nat} (hB : B ≤ w.heap.size) : (w.alloc (.cells #[] 50)).ownsRow B 50 3 (.slice (some ⟨w.heap.size, 0, none⟩) 0 0) 0 [] :=
  ⟨rfl, .inr ⟨_, 0, #[], rfl, hB, World.alloc_heap_new _ _, Nat.le_refl _, by decide, rfl, rfl⟩⟩

set_option maxRecDepth 100000 in
set_option maxHeartbeats 16000000 in
theorem writes_walk (l : List (Int × Int × Int)) (ad : Option Addr) (cap : Nat) (v : ByteArray) (w : World) (hs : Sl w ad l.length (l.flatMap chI)) (hl : l.length ≤ 1048576) (hv : v.size ≤ 1048576) (hT : Tc w) :
    Calls Tryd.prog 8 #[.slice ad l.length cap, .string v] w fun e w' => e = .returned (.bool true) ∧ Only [] w w' := by
  have HT := hid hT
  have HSH := hid (shown_c hT)
  have HS := hid hs
  obtain ⟨n, hn⟩ : ∃ n, l.length = n := ⟨_, rfl⟩
  have HN := hid hn
  rw [hn] at hl HS ⊢
  obtain ⟨i50, hi50, z0, z1, z2⟩ := info_parts info50
  clear hT hs hn
  go_enter Tryd.func8, Tryd.ntmps8
  go_wp2_with fail
  refine HSH.out.mono ?_
  rintro e w1 ⟨rfl, ho1⟩
  have HO1 := hid ho1
  have HR0 := hid (row_none w1 (B := w.heap.size) ho1.size)
  have HOA := hid (ho1.alloc (.cells #[] 50))
  clear ho1
  have hm1 : 0 + n ≤ maxLen := by unfold maxLen; omega
  have hm2 : (0 + n) * 24 ≤ 140737488355328 := by omega
  go_wp2_with (at_builtin; refine wpList_append_sl _ rfl _ _ 44 rfl w.heap.size 50 i50 _ 3 24 Tryd.underlying44 hi50 z0 z1 z2 rfl (by decide) (.slice (some ⟨w1.heap.size, 0, none⟩) 0 0) 0 [] (by rfl) ?qc1 ad n cap (l.flatMap chI) (by rfl) ?qc5 ?qc2 ?qc3 hm1 hm2 ?qc4 ?_)
  case qc1 => exact HR0.out
  case qc5 => rw [flat_len chI_len, HN.out]
  case qc2 => exact HS.out.only HOA.out
  case qc3 => exact chI_one l
  case qc4 => exact HOA.out.size
  intro v1 w2 hown hgrew
  have HO2 := hid (only_grow (L := []) HOA.out hgrew.grown (fun b hb => by simp [Value.ownBlock] at hb; subst hb; exact .inr HO1.out.size))
  have HOW := hid hown
  have HGE := hid (row_ge hown)
  clear hown hgrew hm1 hm2
  have hm1 : n + 1 ≤ maxLen := by unfold maxLen; omega
  have hm2 : (n + 1) * 24 ≤ 140737488355328 := by omega
  go_wp2_with (at_builtin; refine wpList_append_sl _ rfl _ _ 44 rfl w.heap.size 50 i50 _ 3 24 Tryd.underlying44 hi50 z0 z1 z2 rfl (by decide) v1 n (l.flatMap chI) (by rfl) ?qc1 (some ⟨w2.heap.size, 0, none⟩) 1 1 [.int .i64 (-77), .int .i64 0, .int .i64 0] (by rfl) (by rfl) ?qc2 ?qc3 hm1 hm2 ?qc4 ?_)
  case qc1 => exact row_only HOW.out ((Only.refl [] w2).alloc _) (by simp)
  case qc2 => exact sl_newest w2 [.int .i64 (-77), .int .i64 0, .int .i64 0] 50 rfl
  case qc3 => intro u hu; simp only [List.mem_cons, List.not_mem_nil, or_false] at hu; rcases hu with rfl | rfl | rfl <;> rfl
  case qc4 => have := HO2.out.size; simp; omega
  intro v2 w3 hown hgrew
  have HO3 := hid (only_grow (L := []) (HO2.out.alloc (.cells #[.int .i64 (-77), .int .i64 0, .int .i64 0] 50)) hgrew.grown (fun b hb => .inr (HGE.out b hb).1))
  have hcells : l.flatMap chI ++ [.int .i64 (-77), .int .i64 0, .int .i64 0] = (l ++ [(-77, 0, 0)]).flatMap chI := by
    rw [List.flatMap_append]; rfl
  rw [hcells] at hown
  obtain ⟨bd, cap2, rfl, hsl, -⟩ := row_reads hown
  have hcap := row_cap hown
  have HSA := hid (show Sl w3 bd (l ++ [((-77 : Int), (0 : Int), (0 : Int))]).length ((l ++ [((-77 : Int), (0 : Int), (0 : Int))]).flatMap chI) by rw [List.length_append, List.length_singleton, HN.out]; exact hsl)
  obtain ⟨b, off, rfl, hbl, e0, e1, e2⟩ := HSA.out.charI (i := n) (x := (-77, 0, 0)) (by rw [List.getElem?_append_right (by rw [HN.out]; exact Nat.le_refl _), HN.out, Nat.sub_self]; rfl)
  have HSN := hid (show Sl w3 (some ⟨b, off, none⟩) n (l.flatMap chI) from fun h0 => by
    obtain ⟨b', off', e, ha⟩ := HSA.out (by simp)
    refine ⟨b', off', e, ?_⟩
    rw [List.flatMap_append] at ha
    exact At.take ha)
  have HE := hid (And.intro hbl (And.intro e0 (And.intro e1 e2)))
  clear hown hgrew hcells hsl hbl e0 e1 e2 HOW HGE HR0 HOA HO1 HO2 hm1 hm2
  have HTX := hid (fun W (h : Only [] w3 W) => text_c (w := W) (ad := some ⟨b, off, none⟩) (cap := cap2) (l := l) (by rw [HN.out]; exact HSN.out.only h) (HT.out.only (HO3.out.trans h) (by simp)) (by rw [HN.out]; omega))
  have HRX := hid (fun W (h : Only [] w3 W) => refText_c (w := W) (ad := ad) (cap := cap) (l := l) (by rw [HN.out]; exact HS.out.only (HO3.out.trans h)) (by rw [HN.out]; omega))
  have HVL := hid (fun W (h : Only [] w3 W) => valueT_c v W (by omega) (HT.out.only (HO3.out.trans h) (by simp)))
  have HRV := hid (fun W => refValue_c v W (by omega))
  have HCH := hid (fun W (h : Only [] w3 W) => charsI_true l (some ⟨b, off, none⟩) ad cap2 cap W (by rw [HN.out]; omega) (by rw [HN.out]; exact HSN.out.only h) (by rw [HN.out]; exact HS.out.only (HO3.out.trans h)))
  rw [HN.out] at HTX HRX HCH
  obtain ⟨sv, ev, hse⟩ : ∃ (sv : ByteArray) (ev : Int), textV (textM l) = .tuple #[.string sv, .int .i64 ev] := by
    rcases textM l with _ | bs
    · exact ⟨_, _, rfl⟩
    · exact ⟨_, _, rfl⟩
  obtain ⟨wv, fv, hwe⟩ : ∃ (sv : ByteArray) (ev : Int), textV (valM (bl v)) = .tuple #[.string sv, .int .i64 ev] := by
    rcases valM (bl v) with _ | bs
    · exact ⟨_, _, rfl⟩
    · exact ⟨_, _, rfl⟩
  rw [hse] at HTX HRX
  rw [hwe] at HVL HRV
  clear hse hwe
  have hn0 : (0 : Int) ≤ (n : Int) := by omega
  have hnc : (n : Int) ≤ (cap2 : Int) := by omega
  have hnc1 : (n : Int) < (n : Int) + 1 := by omega
  go_wp2_with fail
  go_loopw [22] (fun vi wr => ∃ k : Nat, vi = .int .i64 k ∧ k ≤ 2 ∧ Only [] w3 wr) (fun vi _ => 2 - (RowKit.intOf vi).toNat)
  case atStart => exact ⟨0, rfl, by omega, Only.refl _ _⟩
  case round =>
    obtain ⟨k, rfl, hk, ho⟩ := hrel
    have HO := hid ho
    clear ho
    by_cases hlt : k < 2
    · have hkl : (k : Int) < 2 := by omega
      have HLT := hid hlt
      clear hlt
      go_wp2_with fail
      refine (HTX.out wr HO.out).mono ?_
      rintro e w4 ⟨rfl, ho4⟩
      have HO4 := hid (HO.out.trans ho4)
      clear ho4
      go_wp2_with fail
      refine (HRX.out w4 HO4.out).mono ?_
      rintro e w5 ⟨rfl, ho5⟩
      have HO5 := hid (HO4.out.trans ho5)
      clear ho5
      go_wp2_with fail
      refine (HVL.out w5 HO5.out).mono ?_
      rintro e w6 ⟨rfl, ho6⟩
      have HO6 := hid (HO5.out.trans ho6)
      clear ho6
      go_wp2_with fail
      refine (HRV.out w6).mono ?_
      rintro e w7 ⟨rfl, ho7⟩
      have HO7 := hid (HO6.out.trans ho7)
      clear ho7
      go_wp2_with fail
      go_roundw
      case rel => exact ⟨k + 1, by go_num, HLT.out, HO7.out⟩
      case measure => have := HLT.out; simp [RowKit.intOf]; omega
    · have hkl : ¬ (k : Int) < 2 := by omega
      have e0 := (HO.out.block b HE.out.1 (by simp))
      have c0 : wr.cell? ⟨b, off + n * 3, none⟩ = some (.int .i64 (-77)) := (World.cell?_of_block (w := w3) e0).trans HE.out.2.1
      have c1 : wr.cell? ⟨b, off + n * 3 + 1, none⟩ = some (.int .i64 0) := (World.cell?_of_block (w := w3) e0).trans HE.out.2.2.1
      have c2 : wr.cell? ⟨b, off + n * 3 + 2, none⟩ = some (.int .i64 0) := (World.cell?_of_block (w := w3) e0).trans HE.out.2.2.2
      have hq := eqlC (-77) 0 0
      have hgd := guard50
      clear hlt e0
      go_wp2_with fail
      refine (HCH.out wr HO.out).mono ?_
      rintro e w8 ⟨rfl, d, rfl⟩
      have d0 : (wr.drewN d).cell? ⟨b, off + n * 3, none⟩ = some (.int .i64 (-77)) := by rw [← c0]; exact World.cell?_of_block (by rw [drewN_heap])
      have d1 : (wr.drewN d).cell? ⟨b, off + n * 3 + 1, none⟩ = some (.int .i64 0) := by rw [← c1]; exact World.cell?_of_block (by rw [drewN_heap])
      have d2 : (wr.drewN d).cell? ⟨b, off + n * 3 + 2, none⟩ = some (.int .i64 0) := by rw [← c2]; exact World.cell?_of_block (by rw [drewN_heap])
      go_wp2_with fail
      go_ret
      exact ⟨rfl, HO3.out.trans (HO.out.drewN d)⟩
end Go.Proofs.YthlbbinlkmchjaaDoor
