/- ScanFirst's walk. -/
import Derived.Test.YthlbbinlkmchjaaDoorShown
import Derived.Test.YthlbbinlkmchjaaDoorFits
import Derived.Deep.Cut
import Derived.Deep.CutRange
namespace Go.Proofs.YthlbbinlkmchjaaDoor
open Go.RowKit

/-- the fault of a markup, under great budgets -/
def fl (s : ByteArray) : Int × Int := match (GS s 0 0).2 with
  | none => (0, 0)
  | some x => (x.1, x.2)
def gA (s : ByteArray) : M := { gM with dn := (endS s.size (GS s 0 0).2 : Nat), nw := ((GS s 0 0).1.length : Nat), pk := ((GS s 0 0).1.length : Nat) }
/-- the tokens that are handed out -/
def tks (s : ByteArray) : List Tk := match (GS s 0 0).2 with
  | none => (GS s 0 0).1
  | some _ => []
theorem an_great {s : ByteArray} (hs : s.size ≤ 4294967296) : An s gM [] 0 0 = (gA s, flt (GS s 0 0).1 (GS s 0 0).2) := by
  have h1 := endS_le s
  have h2 := G_few ((rest s 0).length + 1) 0 0 (rest s 0)
  rw [show G ((rest s 0).length + 1) 0 0 (rest s 0) = GS s 0 0 from rfl, rest_length] at h2
  unfold An
  rw [ans_fits s.size (GS s 0 0).2 (GS s 0 0).1 gM [] 0 gM_ok rfl (GS_rise s) (by simp only [gM]; omega) (by simp only [gM]; omega)]
  simp only [gM, gA, Nat.sub_zero, List.nil_append, Int.zero_add, Prod.mk.injEq, and_true]
  congr 1
  first | done | omega
theorem scanG_c {W : World} {mb : Nat} {s : ByteArray} (hm : Blk W mb gM.cells 68) (hs : s.size ≤ 4294967296) (hT : Tc W) (h3 : 3 ≤ mb) :
    Calls Tryd.prog 13 #[.pointer (some ⟨mb, 0, none⟩), .string s] W fun e w' => ∃ tv xs, e = .returned (.tuple #[tv, .agg #[.int .i64 (fl s).1, .int .i64 (fl s).2]]) ∧ TL w' W.heap.size tv xs ∧ Blk w' mb (gA s).cells 68 ∧ Only [mb] W w' ∧ xs.map (·.1) = tks s := by
  refine (scan_c hm gM_ok rfl hs hT h3).mono ?_
  rintro e w' ⟨tv, xs, F, rfl, htl, hb, -, ho, hr⟩
  rw [an_great hs] at hb hr
  refine ⟨tv, xs, ?_, htl, hb, ho, ?_⟩
  · unfold fl
    rcases h : (GS s 0 0).2 with _ | ⟨k, n⟩
    · rw [h] at hr; simp only [flt] at hr; rw [hr.2]
    · rw [h] at hr; simp only [flt] at hr; rw [hr.2.1]
  · unfold tks
    rcases h : (GS s 0 0).2 with _ | ⟨k, n⟩
    · rw [h] at hr; simp only [flt] at hr; exact hr.1
    · rw [h] at hr; simp only [flt] at hr; rw [hr.1]; rfl

theorem bl_app (a b : ByteArray) : bl (a ++ b) = bl a ++ bl b := by
  unfold bl
  rw [ByteArray.data_append, Array.toList_append, List.map_append]
theorem cut_fl {s : ByteArray} {kk nn : Nat} (h : (GS s 0 0).2 = some (kk, nn)) : fl (s.extract 0 nn) = (0, 0) ∨ (fl (s.extract 0 nn)).2 = (nn : Int) := by
  have h' : (G ((rest s 0).length + 1) 0 0 (rest s 0)).2 = some (kk, nn) := h
  have e : rest (s.extract 0 nn) 0 = (rest s 0).take nn := by rw [rest_take s 0 nn, Nat.zero_add]; rfl
  have e2 : GS (s.extract 0 nn) 0 0 = G ((rest s 0).length + 1) 0 0 ((rest s 0).take nn) := by
    show G ((rest (s.extract 0 nn) 0).length + 1) 0 0 (rest (s.extract 0 nn) 0) = _
    rw [e]
    exact G_fuel _ _ _ _ _ (Nat.lt_succ_self _) (by rw [List.length_take]; omega)
  unfold fl
  rw [e2]
  rcases G_cut _ 0 0 _ kk nn nn h' (by omega) with h1 | ⟨k', h1⟩
  · rw [h1]; exact .inl rfl
  · rw [h1]; exact .inr (by simp)
theorem loc_fl {s : ByteArray} {kk nn : Nat} (h : (GS s 0 0).2 = some (kk, nn)) (hn : nn < s.size) (t : ByteArray) : fl (s.extract 0 (nn + 1) ++ t) = ((kk : Int), (nn : Int)) := by
  have h' : (G ((rest s 0).length + 1) 0 0 (rest s 0)).2 = some (kk, nn) := h
  have hl : ((rest s 0).take (nn + 1)).length = nn + 1 := by rw [List.length_take, rest_length]; omega
  have e : rest (s.extract 0 (nn + 1) ++ t) 0 = (rest s 0).take (nn + 1) ++ bl t := by
    show (bl (s.extract 0 (nn + 1) ++ t)).drop 0 = _
    rw [List.drop_zero, bl_app, rest_take s 0 (nn + 1), Nat.zero_add]
  have h2 := G_loc _ 0 0 _ ((rest s 0).take (nn + 1) ++ bl t) kk nn h' (by rw [Nat.sub_zero, List.take_append_of_le_length (by omega), List.take_take, Nat.min_self])
  have e2 : GS (s.extract 0 (nn + 1) ++ t) 0 0 = G ((rest s 0).length + 1 + (rest (s.extract 0 (nn + 1) ++ t) 0).length + 1) 0 0 (rest (s.extract 0 (nn + 1) ++ t) 0) := G_fuel _ _ _ _ _ (Nat.lt_succ_self _) (by omega)
  have h3 : (G ((rest s 0).length + 1 + (rest (s.extract 0 (nn + 1) ++ t) 0).length + 1) 0 0 (rest s 0)).2 = some (kk, nn) := by
    rw [G_fuel _ ((rest s 0).length + 1) _ _ _ (by omega) (by omega)]; exact h'
  have h4 := G_loc _ 0 0 _ ((rest s 0).take (nn + 1) ++ bl t) kk nn h3 (by rw [Nat.sub_zero, List.take_append_of_le_length (by omega), List.take_take, Nat.min_self])
  unfold fl
  rw [e2, show G ((rest s 0).length + 1 + (rest (s.extract 0 (nn + 1) ++ t) 0).length + 1) 0 0 (rest (s.extract 0 (nn + 1) ++ t) 0) = _ from (congrArg _ e).trans h4, h3]

/-- nothing that was there has changed, and the box of the first fault stands -/
def SS (w : World) (f : Nat) (k n : Int) (X : World) : Prop := X.cell? ⟨f, 1, none⟩ = some (.int .i64 n) ∧ Blk X f [.int .i64 k, .int .i64 n] 35 ∧ Only [] w X
theorem SS.mk' {w X : World} {f : Nat} {k n : Int} (h : Blk X f [.int .i64 k, .int .i64 n] 35) (ho : Only [] w X) : SS w f k n X := ⟨h.cell 1, h, ho⟩
theorem SS.both {w X : World} {f : Nat} {k n : Int} (h : SS w f k n X) : X.cell? ⟨f, 1, none⟩ = some (.int .i64 n) ∧ SS w f k n X := ⟨h.1, h⟩
theorem SS.of {w X : World} {f : Nat} {k n : Int} (h : X.cell? ⟨f, 1, none⟩ = some (.int .i64 n) ∧ SS w f k n X) : SS w f k n X := h.2
theorem SS.alloc {w X : World} {f : Nat} {k n : Int} (h : SS w f k n X) (o : Obj) : SS w f k n (X.alloc o) := .mk' (h.2.1.alloc o) (h.2.2.alloc o)
theorem SS.drew {w X : World} {f : Nat} {k n : Int} (h : SS w f k n X) : SS w f k n X.drew := .mk' h.2.1.drew h.2.2.drew
theorem SS.only {w X Y : World} {f mb : Nat} {k n : Int} (h : SS w f k n X) (ho : Only [mb] X Y) (hf : f < mb) (hw : w.heap.size ≤ mb) : SS w f k n Y :=
  .mk' (ho.blk h.2.1 (by simp; omega)) (h.2.2.fresh ho (fun i hi hlt => by simp at hi; omega))
theorem SS.set {w X : World} {f : Nat} {k n : Int} (h : SS w f k n X) (a : Addr) (v : Value) (hf : f < a.block) (hw : w.heap.size ≤ a.block) : SS w f k n (X.setCell a v) :=
  .mk' (h.2.1.other a v (by omega)) (h.2.2.set (.inr hw) v)

set_option maxRecDepth 100000 in
set_option maxHeartbeats 8000000 in
theorem first_walk (s t : ByteArray) (hs : s.size ≤ 140737488351232) (ht : t.size ≤ 140737488351232) (w : World) (hT : Tc w) :
    Calls Tryd.prog 5 #[.string s, .string t] w fun e w' => e = .returned (.bool true) ∧ Only [] w w' := by
  by_cases hbig : s.size + t.size > 2147483647
  · have hb : (2147483647 : Int) < (s.size : Int) + (t.size : Int) := by omega
    go_enter Tryd.func5, Tryd.ntmps5
    go_wp2
    go_ret
    exact ⟨rfl, Only.refl _ _⟩
  have hb : ¬ (2147483647 : Int) < (s.size : Int) + (t.size : Int) := by omega
  have HT := hid hT
  have h3 := hid hT.tb.size
  have HSH := hid (shown_c hT)
  clear hT
  go_enter Tryd.func5, Tryd.ntmps5
  go_wp2_with fail
  refine HSH.out.mono ?_
  rintro e w1 ⟨rfl, ho1⟩
  have HO1 := hid ho1
  clear ho1
  go_wp2_with fail
  refine (great_c w1).mono ?_
  rintro e w2 ⟨rfl, rfl⟩
  have HM := hid (Blk.new w1 gM.cells.toArray 68 rfl)
  have HO2 := hid (HO1.out.alloc (.cells gM.cells.toArray 68))
  have h3a : 3 ≤ w1.heap.size := Nat.le_trans h3.out HO1.out.size
  go_wp2_with fail
  refine (scanG_c HM.out (by omega) (HT.out.only HO2.out (by simp)) h3a).mono ?_
  rintro e w3 ⟨tv, xs, rfl, -, -, ho3, -⟩
  have HO3 : Hid (Only [] w w3) := hid (HO2.out.fresh ho3 (fun i hi hlt => by simp at hi; subst hi; have := HO1.out.size; omega))
  obtain ⟨k, hk⟩ : ∃ k, (fl s).1 = k := ⟨_, rfl⟩
  obtain ⟨n, hn⟩ : ∃ n, (fl s).2 = n := ⟨_, rfl⟩
  rw [hk, hn]
  have HK := hid hk
  have HN := hid hn
  clear ho3 hk hn
  have hgd := guard35
  rcases hh : (k == 0) && (n == 0) with _ | _
  · have q1 := eqlF k n 0 0
    rw [hh] at q1
    have HH := hid hh
    clear hh
    have hne : ∃ kk nn, (GS s 0 0).2 = some (kk, nn) := by
      rcases hg : (GS s 0 0).2 with _ | ⟨kk, nn⟩
      · exfalso
        have h1 := HK.out; have h2 := HN.out
        unfold fl at h1 h2
        rw [hg] at h1 h2
        simp only at h1 h2
        subst h1 h2
        have := HH.out
        simp at this
      · exact ⟨kk, nn, rfl⟩
    obtain ⟨kk, nn, hGS⟩ := hne
    have hkk : k = kk ∧ n = nn := by
      have h1 := HK.out; have h2 := HN.out
      unfold fl at h1 h2
      rw [hGS] at h1 h2
      exact ⟨h1.symm, h2.symm⟩
    obtain ⟨rfl, rfl⟩ := hkk
    have hnn := (G_ge ((rest s 0).length + 1) 0 0 (rest s 0)).1 kk nn hGS
    rw [rest_length] at hnn
    have HGS := hid hGS
    have hz0 : (0 : Int) ≤ (nn : Int) := by omega
    have hz1 : (nn : Int) ≤ (s.size : Int) := by omega
    clear hGS
    go_wp2_with fail
    have HB4 := hid (Blk.new w3 #[.int .i64 (kk : Int), .int .i64 (nn : Int)] 35 rfl)
    have HO4 := hid (HO3.out.alloc (.cells #[.int .i64 (kk : Int), .int .i64 (nn : Int)] 35))
    obtain ⟨f, hf⟩ : ∃ f, w3.heap.size = f := ⟨_, rfl⟩
    obtain ⟨W4, hW4⟩ : ∃ W4, w3.alloc (.cells #[.int .i64 (kk : Int), .int .i64 (nn : Int)] 35) = W4 := ⟨_, rfl⟩
    rw [hW4] at HB4 HO4 ⊢
    rw [hf] at HB4 ⊢
    have HGE : Hid (w.heap.size ≤ W4.heap.size) := hid HO4.out.size
    clear hW4 hf
    have hS0a : SS w f (kk : Int) (nn : Int) W4 := .mk' HB4.out HO4.out
    have HSC := hid (fun X mb (x : ByteArray) (hx : x.size ≤ 4294967296) (hm : Blk X mb gM.cells 68) (hs : SS w f (kk : Int) (nn : Int) X) (hf : f < mb) (hle : w.heap.size ≤ mb) =>
      Calls.mono (scanG_c (s := x) hm hx (HT.out.only hs.2.2 (by simp)) (Nat.le_trans h3.out hle)) (R' := fun e w' => ∃ tv, e = .returned (.tuple #[tv, .agg #[.int .i64 (fl x).1, .int .i64 (fl x).2]]) ∧ SS w f (kk : Int) (nn : Int) w' ∧ Only [mb] X w') (by
        rintro e w' ⟨tv, xs, rfl, -, -, ho, -⟩
        exact ⟨tv, rfl, hs.only ho hf hle, ho⟩))
    have hxs : (s.extract 0 nn).size ≤ 4294967296 := by rw [← bl_length, bl_extract, List.length_take, List.length_drop, bl_length]; omega
    have HG := hid (fun X (h : SS w f (kk : Int) (nn : Int) X) => Calls.mono (great_c X) (R' := fun e w' => e = .returned (.pointer (some ⟨X.heap.size, 0, none⟩)) ∧ w' = X.alloc (.cells gM.cells.toArray 68) ∧ SS w f (kk : Int) (nn : Int) w') (by
      rintro e w' ⟨rfl, rfl⟩
      exact ⟨rfl, rfl, h.alloc _⟩))
    have hfma : f < W4.heap.size := hS0a.2.1.lt
    have hgma : w.heap.size ≤ W4.heap.size := hS0a.2.2.size
    have hs4a : (W4.alloc (.cells #[.int .i64 0, .int .i64 0] 35)).heap.size = W4.heap.size + 1 := Array.size_push _
    have hs5a : (W4.alloc (.cells gM.cells.toArray 68)).heap.size = W4.heap.size + 1 := Array.size_push _
    go_upto_region 10 with fail
    go_cut [8] from 11 (fun s8 wx => ∃ g : Nat, s8 = .pointer (some ⟨g, 0, none⟩) ∧ SS w f (kk : Int) (nn : Int) wx ∧ Blk wx g [.int .i64 (fl (s.extract 0 nn)).1, .int .i64 (fl (s.extract 0 nn)).2] 35)
    case first =>
      go_region_held3 (fun w' => w'.cell? ⟨f, 1, none⟩ = some (.int .i64 (nn : Int)) ∧ SS w f (kk : Int) (nn : Int) w') (first | exact hS2a.both | exact hS1a.both | exact hS0a.both | exact hS0a.drew.both | exact (SS.alloc (SS.of (by assumption)) _).both | exact (hS2a.alloc _).both | exact (SS.of (by assumption)).both | exact ((hS2a.set _ _ (by exact hfba) (by exact hgba)).set _ _ (by exact hfba) (by exact hgba)).both)
        (first
          | (go_at_call 12; refine (HG.out _ (SS.of (by assumption))).mono ?_; rintro e w5a ⟨rfl, rfl, hS1a⟩)
          | (go_at_call 13; refine (HSC.out _ _ _ hxs (by first | exact Blk.new _ _ _ rfl | exact (Blk.new _ _ _ rfl).alloc _ | exact Blk.new _ _ _ hs4a | exact (Blk.new _ _ _ hs4a).drew) (SS.of (by assumption)) (by first | exact hfma | exact Nat.lt_succ_of_lt hfma | (rw [hs4a]; exact Nat.lt_succ_of_lt hfma)) (by first | exact hgma | exact Nat.le_succ_of_le hgma | (rw [hs4a]; exact Nat.le_succ_of_le hgma))).mono ?_; rintro e w6a ⟨tv6a, rfl, hS2a, ho6a⟩;
             (first
              | (have hbxa := ho6a.blk ((Blk.new W4 #[.int .i64 0, .int .i64 0] 35 rfl).alloc _).drew (by first | (rw [List.mem_singleton, hs4a]; omega) | (rw [List.mem_singleton]; omega) | (rw [List.mem_singleton]; exact Nat.ne_of_lt (Nat.lt_succ_self _))); have hfba : f < W4.heap.size := hfma; have hgba : w.heap.size ≤ W4.heap.size := hgma; have c0a := hbxa.cell 0; have c1a := hbxa.cell 1; have f0a := hbxa.froz 0; have f1a := hbxa.froz 1; simp only [List.getElem?_cons_zero, List.getElem?_cons_succ] at c0a c1a)
              | (have _hx : Only [W4.heap.size] (W4.alloc (.cells gM.cells.toArray 68)).drew w6a := ho6a)
              | (have hbxa := ho6a.blk (Blk.new (W4.alloc (.cells gM.cells.toArray 68)) #[.int .i64 0, .int .i64 0] 35 rfl).drew (by rw [List.mem_singleton, hs5a]; omega); have hfba : f < (W4.alloc (.cells gM.cells.toArray 68)).heap.size := (by rw [hs5a]; omega); have hgba : w.heap.size ≤ (W4.alloc (.cells gM.cells.toArray 68)).heap.size := (by rw [hs5a]; omega); rw [hs5a] at hbxa hfba hgba; have c0a := hbxa.cell 0; have c1a := hbxa.cell 1; have f0a := hbxa.froz 0; have f1a := hbxa.froz 1; simp only [List.getElem?_cons_zero, List.getElem?_cons_succ] at c0a c1a))))
      all_goals
        (first | skip)
        go_wp2_with fail
        go_meet
        first
        | exact ⟨_, rfl, hS2a.alloc _, Blk.new w6a #[_, _] 35 rfl⟩
        | exact ⟨_, rfl, (hS2a.set _ _ (by exact hfba) (by exact hgba)).set _ _ (by exact hfba) (by exact hgba), (hbxa.set 0 _).set 1 _⟩
    case rest =>
    obtain ⟨ga, rfl, hSna, hBna⟩ := hcut
    have HSan := hid hSna
    have HBan := hid hBna
    clear hSna hBna
    obtain ⟨Va, hV⟩ : ∃ V, wc = V := ⟨_, rfl⟩
    rw [hV] at HSan HBan ⊢
    clear hV hfma hgma hs4a hs5a hS0a
    obtain ⟨k5, hk5⟩ : ∃ k5, (fl (s.extract 0 nn)).1 = k5 := ⟨_, rfl⟩
    obtain ⟨n5, hn5⟩ : ∃ n5, (fl (s.extract 0 nn)).2 = n5 := ⟨_, rfl⟩
    rw [hk5, hn5] at HBan
    have HC5 : Hid ((k5 = 0 ∧ n5 = 0) ∨ n5 = (nn : Int)) := hid (by
      rcases cut_fl HGS.out with h | h
      · rw [h] at hk5 hn5; exact .inl ⟨hk5.symm, hn5.symm⟩
      · exact .inr (hn5.symm.trans h))
    have d0a := HBan.out.cell 0
    have d1a := HBan.out.cell 1
    have e0a := HSan.out.2.1.cell 0
    have e1a := HSan.out.2.1.cell 1
    simp only [List.getElem?_cons_zero, List.getElem?_cons_succ] at d0a d1a e0a e1a
    have q2 := neqF k5 n5 0 0
    have hd5 : ((k5 == 0) && (n5 == 0)) = true ∨ (((k5 == 0) && (n5 == 0)) = false ∧ n5 = (nn : Int)) := by
      rcases HC5.out with ⟨h1, h2⟩ | h
      · exact .inl (by rw [h1, h2]; rfl)
      · rcases hx : (k5 == 0) && (n5 == 0) with _ | _
        · exact .inr ⟨rfl, h⟩
        · exact .inl rfl
    have hS0b : SS w f (kk : Int) (nn : Int) Va := HSan.out
    by_cases hend : nn = s.size
    · have hend' : (nn : Int) = (s.size : Int) := by omega
      rcases hd5 with h5 | ⟨h5, h6⟩
      · rw [h5] at q2
        go_wp2_with fail
        go_ret
        exact ⟨rfl, HSan.out.2.2⟩
      · rw [h5] at q2
        subst h6
        go_wp2_with fail
        all_goals (go_ret; exact ⟨rfl, HSan.out.2.2⟩)
    · have hend' : ¬ (nn : Int) = (s.size : Int) := by omega
      obtain ⟨m1, hm1⟩ : ∃ m1 : Nat, nn + 1 = m1 := ⟨_, rfl⟩
      have hw1 : IntKind.i64.wrap ((nn : Int) + 1) = (m1 : Int) := (IntWalk.i64_in _ (by omega)).trans (by omega)
      have hz2 : (0 : Int) ≤ (m1 : Int) := by omega
      have hz3 : (m1 : Int) ≤ (s.size : Int) := by omega
      have HFL := hid (loc_fl HGS.out (by omega) t)
      have hxs2 : (s.extract 0 m1 ++ t).size ≤ 4294967296 := by rw [← bl_length, bl_app, bl_extract, List.length_append, List.length_take, List.length_drop, bl_length, bl_length]; omega
      rw [hm1] at HFL
      have hcat : (s.extract 0 m1).size + t.size ≤ 9223372036854775807 := by rw [← bl_length, bl_extract, List.length_take, List.length_drop, bl_length]; omega
      have hcat2 : ¬ 9223372036854775807 < min m1 s.size + t.size := by omega
      rcases hd5 with h5 | ⟨h5, h6⟩
      · rw [h5] at q2
        have hfmb : f < Va.heap.size := hS0b.2.1.lt
        have hgmb : w.heap.size ≤ Va.heap.size := hS0b.2.2.size
        have hs4b : (Va.alloc (.cells #[.int .i64 0, .int .i64 0] 35)).heap.size = Va.heap.size + 1 := Array.size_push _
        have hs5b : (Va.alloc (.cells gM.cells.toArray 68)).heap.size = Va.heap.size + 1 := Array.size_push _
        go_upto_region 15 with fail
        go_cut [10] from 11 (fun s8 wx => ∃ g : Nat, s8 = .pointer (some ⟨g, 0, none⟩) ∧ SS w f (kk : Int) (nn : Int) wx ∧ Blk wx g [.int .i64 (fl (s.extract 0 m1 ++ t)).1, .int .i64 (fl (s.extract 0 m1 ++ t)).2] 35)
        case first =>
          go_region_held3 (fun w' => w'.cell? ⟨f, 1, none⟩ = some (.int .i64 (nn : Int)) ∧ SS w f (kk : Int) (nn : Int) w') (first | exact hS2b.both | exact hS1b.both | exact hS0b.both | exact hS0b.drew.both | exact (SS.alloc (SS.of (by assumption)) _).both | exact (hS2b.alloc _).both | exact (SS.of (by assumption)).both | exact ((hS2b.set _ _ (by exact hfbb) (by exact hgbb)).set _ _ (by exact hfbb) (by exact hgbb)).both)
            (first
              | (go_at_call 12; refine (HG.out _ (SS.of (by assumption))).mono ?_; rintro e w5b ⟨rfl, rfl, hS1b⟩)
              | (go_at_call 13; refine (HSC.out _ _ _ hxs2 (by first | exact Blk.new _ _ _ rfl | exact (Blk.new _ _ _ rfl).alloc _ | exact Blk.new _ _ _ hs4b | exact (Blk.new _ _ _ hs4b).drew) (SS.of (by assumption)) (by first | exact hfmb | exact Nat.lt_succ_of_lt hfmb | (rw [hs4b]; exact Nat.lt_succ_of_lt hfmb)) (by first | exact hgmb | exact Nat.le_succ_of_le hgmb | (rw [hs4b]; exact Nat.le_succ_of_le hgmb))).mono ?_; rintro e w6b ⟨tv6b, rfl, hS2b, ho6b⟩;
                 (first
                  | (have hbxb := ho6b.blk ((Blk.new Va #[.int .i64 0, .int .i64 0] 35 rfl).alloc _).drew (by first | (rw [List.mem_singleton, hs4b]; omega) | (rw [List.mem_singleton]; omega) | (rw [List.mem_singleton]; exact Nat.ne_of_lt (Nat.lt_succ_self _))); have hfbb : f < Va.heap.size := hfmb; have hgbb : w.heap.size ≤ Va.heap.size := hgmb; have c0b := hbxb.cell 0; have c1b := hbxb.cell 1; have f0b := hbxb.froz 0; have f1b := hbxb.froz 1; simp only [List.getElem?_cons_zero, List.getElem?_cons_succ] at c0b c1b)
                  | (have _hx : Only [Va.heap.size] (Va.alloc (.cells gM.cells.toArray 68)).drew w6b := ho6b)
                  | (have hbxb := ho6b.blk (Blk.new (Va.alloc (.cells gM.cells.toArray 68)) #[.int .i64 0, .int .i64 0] 35 rfl).drew (by rw [List.mem_singleton, hs5b]; omega); have hfbb : f < (Va.alloc (.cells gM.cells.toArray 68)).heap.size := (by rw [hs5b]; omega); have hgbb : w.heap.size ≤ (Va.alloc (.cells gM.cells.toArray 68)).heap.size := (by rw [hs5b]; omega); rw [hs5b] at hbxb hfbb hgbb; have c0b := hbxb.cell 0; have c1b := hbxb.cell 1; have f0b := hbxb.froz 0; have f1b := hbxb.froz 1; simp only [List.getElem?_cons_zero, List.getElem?_cons_succ] at c0b c1b))))
          all_goals
            (first | skip)
            go_wp2_with fail
            go_meet
            first
            | exact ⟨_, rfl, hS2b.alloc _, Blk.new w6b #[_, _] 35 rfl⟩
            | exact ⟨_, rfl, (hS2b.set _ _ (by exact hfbb) (by exact hgbb)).set _ _ (by exact hfbb) (by exact hgbb), (hbxb.set 0 _).set 1 _⟩
        case rest =>
        obtain ⟨gb, rfl, hSnb, hBnb⟩ := hcut
        have HSbn := hid hSnb
        have HBbn := hid hBnb
        clear hSnb hBnb
        obtain ⟨Vb, hV⟩ : ∃ V, wc = V := ⟨_, rfl⟩
        rw [hV] at HSbn HBbn ⊢
        clear hV hfmb hgmb hs4b hs5b hS0b
        obtain ⟨k6, hk6⟩ : ∃ k6, (fl (s.extract 0 m1 ++ t)).1 = k6 := ⟨_, rfl⟩
        obtain ⟨n6, hn6⟩ : ∃ n6, (fl (s.extract 0 m1 ++ t)).2 = n6 := ⟨_, rfl⟩
        rw [hk6, hn6] at HBbn
        have e6 : k6 = (kk : Int) ∧ n6 = (nn : Int) := ⟨hk6.symm.trans (congrArg Prod.fst HFL.out), hn6.symm.trans (congrArg Prod.snd HFL.out)⟩
        obtain ⟨rfl, rfl⟩ := e6
        have d0b := HBbn.out.cell 0
        have d1b := HBbn.out.cell 1
        have e0b := HSbn.out.2.1.cell 0
        have e1b := HSbn.out.2.1.cell 1
        simp only [List.getElem?_cons_zero, List.getElem?_cons_succ] at d0b d1b e0b e1b
        have q3 := eqlF (kk : Int) (nn : Int) (kk : Int) (nn : Int)
        rw [beq_self_eq_true, beq_self_eq_true] at q3
        go_wp2_with fail
        go_ret
        exact ⟨rfl, HSbn.out.2.2⟩
      · rw [h5] at q2
        subst h6
        have hfmb : f < Va.heap.size := hS0b.2.1.lt
        have hgmb : w.heap.size ≤ Va.heap.size := hS0b.2.2.size
        have hs4b : (Va.alloc (.cells #[.int .i64 0, .int .i64 0] 35)).heap.size = Va.heap.size + 1 := Array.size_push _
        have hs5b : (Va.alloc (.cells gM.cells.toArray 68)).heap.size = Va.heap.size + 1 := Array.size_push _
        go_upto_region 15 with fail
        go_cut [10] from 11 (fun s8 wx => ∃ g : Nat, s8 = .pointer (some ⟨g, 0, none⟩) ∧ SS w f (kk : Int) (nn : Int) wx ∧ Blk wx g [.int .i64 (fl (s.extract 0 m1 ++ t)).1, .int .i64 (fl (s.extract 0 m1 ++ t)).2] 35)
        case first =>
          go_region_held3 (fun w' => w'.cell? ⟨f, 1, none⟩ = some (.int .i64 (nn : Int)) ∧ SS w f (kk : Int) (nn : Int) w') (first | exact hS2b.both | exact hS1b.both | exact hS0b.both | exact hS0b.drew.both | exact (SS.alloc (SS.of (by assumption)) _).both | exact (hS2b.alloc _).both | exact (SS.of (by assumption)).both | exact ((hS2b.set _ _ (by exact hfbb) (by exact hgbb)).set _ _ (by exact hfbb) (by exact hgbb)).both)
            (first
              | (go_at_call 12; refine (HG.out _ (SS.of (by assumption))).mono ?_; rintro e w5b ⟨rfl, rfl, hS1b⟩)
              | (go_at_call 13; refine (HSC.out _ _ _ hxs2 (by first | exact Blk.new _ _ _ rfl | exact (Blk.new _ _ _ rfl).alloc _ | exact Blk.new _ _ _ hs4b | exact (Blk.new _ _ _ hs4b).drew) (SS.of (by assumption)) (by first | exact hfmb | exact Nat.lt_succ_of_lt hfmb | (rw [hs4b]; exact Nat.lt_succ_of_lt hfmb)) (by first | exact hgmb | exact Nat.le_succ_of_le hgmb | (rw [hs4b]; exact Nat.le_succ_of_le hgmb))).mono ?_; rintro e w6b ⟨tv6b, rfl, hS2b, ho6b⟩;
                 (first
                  | (have hbxb := ho6b.blk ((Blk.new Va #[.int .i64 0, .int .i64 0] 35 rfl).alloc _).drew (by first | (rw [List.mem_singleton, hs4b]; omega) | (rw [List.mem_singleton]; omega) | (rw [List.mem_singleton]; exact Nat.ne_of_lt (Nat.lt_succ_self _))); have hfbb : f < Va.heap.size := hfmb; have hgbb : w.heap.size ≤ Va.heap.size := hgmb; have c0b := hbxb.cell 0; have c1b := hbxb.cell 1; have f0b := hbxb.froz 0; have f1b := hbxb.froz 1; simp only [List.getElem?_cons_zero, List.getElem?_cons_succ] at c0b c1b)
                  | (have _hx : Only [Va.heap.size] (Va.alloc (.cells gM.cells.toArray 68)).drew w6b := ho6b)
                  | (have hbxb := ho6b.blk (Blk.new (Va.alloc (.cells gM.cells.toArray 68)) #[.int .i64 0, .int .i64 0] 35 rfl).drew (by rw [List.mem_singleton, hs5b]; omega); have hfbb : f < (Va.alloc (.cells gM.cells.toArray 68)).heap.size := (by rw [hs5b]; omega); have hgbb : w.heap.size ≤ (Va.alloc (.cells gM.cells.toArray 68)).heap.size := (by rw [hs5b]; omega); rw [hs5b] at hbxb hfbb hgbb; have c0b := hbxb.cell 0; have c1b := hbxb.cell 1; have f0b := hbxb.froz 0; have f1b := hbxb.froz 1; simp only [List.getElem?_cons_zero, List.getElem?_cons_succ] at c0b c1b))))
          all_goals
            (first | skip)
            go_wp2_with fail
            go_meet
            first
            | exact ⟨_, rfl, hS2b.alloc _, Blk.new w6b #[_, _] 35 rfl⟩
            | exact ⟨_, rfl, (hS2b.set _ _ (by exact hfbb) (by exact hgbb)).set _ _ (by exact hfbb) (by exact hgbb), (hbxb.set 0 _).set 1 _⟩
        case rest =>
        obtain ⟨gb, rfl, hSnb, hBnb⟩ := hcut
        have HSbn := hid hSnb
        have HBbn := hid hBnb
        clear hSnb hBnb
        obtain ⟨Vb, hV⟩ : ∃ V, wc = V := ⟨_, rfl⟩
        rw [hV] at HSbn HBbn ⊢
        clear hV hfmb hgmb hs4b hs5b hS0b
        obtain ⟨k6, hk6⟩ : ∃ k6, (fl (s.extract 0 m1 ++ t)).1 = k6 := ⟨_, rfl⟩
        obtain ⟨n6, hn6⟩ : ∃ n6, (fl (s.extract 0 m1 ++ t)).2 = n6 := ⟨_, rfl⟩
        rw [hk6, hn6] at HBbn
        have e6 : k6 = (kk : Int) ∧ n6 = (nn : Int) := ⟨hk6.symm.trans (congrArg Prod.fst HFL.out), hn6.symm.trans (congrArg Prod.snd HFL.out)⟩
        obtain ⟨rfl, rfl⟩ := e6
        have d0b := HBbn.out.cell 0
        have d1b := HBbn.out.cell 1
        have e0b := HSbn.out.2.1.cell 0
        have e1b := HSbn.out.2.1.cell 1
        simp only [List.getElem?_cons_zero, List.getElem?_cons_succ] at d0b d1b e0b e1b
        have q3 := eqlF (kk : Int) (nn : Int) (kk : Int) (nn : Int)
        rw [beq_self_eq_true, beq_self_eq_true] at q3
        go_wp2_with fail
        go_ret
        exact ⟨rfl, HSbn.out.2.2⟩
  · have q1 := eqlF k n 0 0
    rw [hh] at q1
    clear hh
    go_wp2_with fail
    go_ret
    exact ⟨rfl, HO3.out.alloc _⟩
end Go.Proofs.YthlbbinlkmchjaaDoor
