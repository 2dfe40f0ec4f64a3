/- The examples hold. -/
import Derived.Test.YtmlhibcbgdhadaaDoorPlainM
import Derived.Test.YtmlhibcbgdhadaaDoorSame
namespace Go.Proofs.YtmlhibcbgdhadaaDoor
open Go.RowKit

theorem fitN {x : Nd} (hx : x ∈ plainN) : Fit x := by
  simp only [plainN, List.mem_cons, List.not_mem_nil, or_false] at hx
  rcases hx with rfl | rfl | rfl | rfl | rfl | rfl
  all_goals exact ⟨by unfold I64; decide, by unfold I64; decide, by unfold I64; decide, by unfold I64; decide, by unfold I64; decide, by unfold I64; decide, by unfold I64; decide, by unfold I64; decide, by unfold I64; decide, by unfold I64; decide, by unfold I64; decide, by decide, by decide⟩
theorem fit2 {x : Nd} (hx : x ∈ plain2) : Fit x := by
  simp only [plain2, plainN, List.set_cons_succ, List.set_cons_zero, List.mem_cons, List.not_mem_nil, or_false] at hx
  rcases hx with rfl | rfl | rfl | rfl | rfl | rfl
  all_goals exact ⟨by unfold I64; decide, by unfold I64; decide, by unfold I64; decide, by unfold I64; decide, by unfold I64; decide, by unfold I64; decide, by unfold I64; decide, by unfold I64; decide, by unfold I64; decide, by unfold I64; decide, by unfold I64; decide, by decide, by decide⟩
theorem plain_fit {x : Nd × Value} {h : Nat} (hx : x ∈ plainX h) : Fit x.1 := fitN (by rw [← plain_nds h]; exact List.mem_map_of_mem hx)
def plainY (h : Nat) : List (Nd × Value) := (plainX h).set 5 (⟨5, 4, 0, 0, 0, { data := #[] }, 0, 0, 0, 0, 0, 0, []⟩, .slice none 0 0)
theorem plainY_nds (h : Nat) : nds (plainY h) = plain2 := rfl
theorem plainY_fit {x : Nd × Value} {h : Nat} (hx : x ∈ plainY h) : Fit x.1 := fit2 (by rw [← plainY_nds h]; exact List.mem_map_of_mem hx)
/-- the plain document, wherever it lies -/
structure PL (W : World) (b : Nat) : Prop where
  ex : ∃ h, b = h + 3 ∧ NL W W.heap.size (some ⟨b, 0, none⟩) (plainX h)
theorem PL.still {W W' : World} {b : Nat} (h : PL W b) (o : Only [] W W') : PL W' b := by
  obtain ⟨k, e, hn⟩ := h.ex
  exact ⟨k, e, (hn.still o).mono o.size⟩
theorem plain_pl (w : World) : Calls Tryd.prog 26 #[] w fun e w' => e = .returned (.slice (some ⟨w.heap.size + 3, 0, none⟩) 6 6) ∧ Only [] w w' ∧ PL w' (w.heap.size + 3) ∧ Blk w' (w.heap.size + 3) ((plainX w.heap.size).flatMap ndc) 42 :=
  (plain_any w).mono fun _ _ ⟨h1, h2, h3, h4⟩ => ⟨h1, h2, ⟨⟨_, rfl, h4⟩⟩, h3⟩
theorem pl_check {W : World} {b : Nat} (h : PL W b) (hT : Tt W) : Calls Tryd.prog 12 #[.slice (some ⟨b, 0, none⟩) 6 6] W fun e w' => e = .returned (.tuple #[.int .i64 0, .int .i64 0]) ∧ Only [] W w' := by
  obtain ⟨k, -, hn⟩ := h.ex
  have := check_any (cap := 6) (show (plainX k).length ≤ 4294967296 by show 6 ≤ 4294967296; decide) (fun x hx => plain_fit hx) W hn (Nat.le_refl _) hT
  rw [plain_nds, plain_chk] at this
  exact this
theorem pl_print {W : World} {b : Nat} (h : PL W b) (hT : Tt W) : Calls Tryd.prog 13 #[.slice (some ⟨b, 0, none⟩) 6 6] W fun e w' => e = .returned (.tuple #[.string (strN plainT), .int .i64 0]) ∧ Only [] W w' := by
  obtain ⟨k, -, hn⟩ := h.ex
  have := print_c (cap := 6) (show (plainX k).length ≤ 4294967296 by show 6 ≤ 4294967296; decide) (fun x hx => plain_fit hx) (by rw [plain_nds, plain_sum]; decide) W hn (Nat.le_refl _) hT
  have e : prtV (nds (plainX k)) = .tuple #[.string (strN plainT), .int .i64 0] := by rw [plain_nds]; unfold prtV; rw [plain_chk, plain_prt]; rfl
  rw [e] at this
  exact this.mono fun _ _ ⟨h1, h2⟩ => ⟨h1, Only.ofBelow h2⟩
theorem pl_kids {W : World} {b : Nat} (h : PL W b) (hT : Tt W) : Calls Tryd.prog 20 #[.slice (some ⟨b, 0, none⟩) 6 6, .int .i64 1] W fun e w' => (∃ v, e = .returned v ∧ RI w' W.heap.size v [2, 3, 5]) ∧ Only [] W w' := by
  obtain ⟨k, -, hn⟩ := h.ex
  have := kids_c (cap := 6) 1 (show (plainX k).length ≤ 4294967296 by show 6 ≤ 4294967296; decide) (fun x hx => plain_fit hx) W hn (Nat.le_refl _) hT
  rw [plain_nds, plain_kids] at this
  exact this.mono fun _ _ ⟨v, h1, h2, h3⟩ => ⟨⟨v, h1, h2⟩, h3⟩
theorem pl_path4 {W : World} {b : Nat} (h : PL W b) (hT : Tt W) : Calls Tryd.prog 21 #[.slice (some ⟨b, 0, none⟩) 6 6, .int .i64 4] W fun e w' => (∃ v, e = .returned v ∧ RI w' W.heap.size v [0, 1, 3, 4]) ∧ Only [] W w' := by
  obtain ⟨k, -, hn⟩ := h.ex
  have := paths_c (cap := 6) 4 (show (plainX k).length ≤ 4294967296 by show 6 ≤ 4294967296; decide) (fun x hx => plain_fit hx) W hn (Nat.le_refl _) hT
  rw [plain_nds, plain_path4] at this
  exact this.mono fun _ _ ⟨v, h1, h2, h3⟩ => ⟨⟨v, h1, h2⟩, h3⟩
theorem pl_path9 {W : World} {b : Nat} (h : PL W b) (hT : Tt W) : Calls Tryd.prog 21 #[.slice (some ⟨b, 0, none⟩) 6 6, .int .i64 9] W fun e w' => (∃ v, e = .returned v ∧ RI w' W.heap.size v []) ∧ Only [] W w' := by
  obtain ⟨k, -, hn⟩ := h.ex
  have := paths_c (cap := 6) 9 (show (plainX k).length ≤ 4294967296 by show 6 ≤ 4294967296; decide) (fun x hx => plain_fit hx) W hn (Nat.le_refl _) hT
  rw [plain_nds, plain_path9] at this
  exact this.mono fun _ _ ⟨v, h1, h2, h3⟩ => ⟨⟨v, h1, h2⟩, h3⟩
theorem pl_same {W : World} {b c : Nat} (h : PL W b) (h' : PL W c) : Calls Tryd.prog 18 #[.slice (some ⟨b, 0, none⟩) 6 6, .slice (some ⟨c, 0, none⟩) 6 6] W fun e w' => e = .returned (.bool true) ∧ Only [] W w' := by
  obtain ⟨k, -, hn⟩ := h.ex
  obtain ⟨k', -, hn'⟩ := h'.ex
  have := treeSame_any (ac := 6) (bc := 6) W hn hn' (fun x hx => plain_fit hx) (fun x hx => plain_fit hx) (show (plainX k).length ≤ 4294967296 by show 6 ≤ 4294967296; decide) (show (plainX k').length ≤ 4294967296 by show 6 ≤ 4294967296; decide)
  rw [plain_nds, plain_nds, plain_same] at this
  exact this
/-- the other one, whose last Parent is 4 -/
structure PM (W : World) (b : Nat) : Prop where
  ex : ∃ h, b = h + 3 ∧ NL W W.heap.size (some ⟨b, 0, none⟩) (plainY h)
theorem PM.still {W W' : World} {b : Nat} (h : PM W b) (o : Only [] W W') : PM W' b := by
  obtain ⟨k, e, hn⟩ := h.ex
  exact ⟨k, e, (hn.still o).mono o.size⟩
theorem pm_check {W : World} {b : Nat} (h : PM W b) (hT : Tt W) : Calls Tryd.prog 12 #[.slice (some ⟨b, 0, none⟩) 6 6] W fun e w' => e = .returned (.tuple #[.int .i64 5, .int .i64 90]) ∧ Only [] W w' := by
  obtain ⟨k, -, hn⟩ := h.ex
  have := check_any (cap := 6) (show (plainY k).length ≤ 4294967296 by show 6 ≤ 4294967296; decide) (fun x hx => plainY_fit hx) W hn (Nat.le_refl _) hT
  rw [plainY_nds, plain2_chk] at this
  exact this
theorem pm_same {W : World} {b c : Nat} (h : PL W b) (h' : PM W c) : Calls Tryd.prog 18 #[.slice (some ⟨b, 0, none⟩) 6 6, .slice (some ⟨c, 0, none⟩) 6 6] W fun e w' => e = .returned (.bool false) ∧ Only [] W w' := by
  obtain ⟨k, -, hn⟩ := h.ex
  obtain ⟨k', -, hn'⟩ := h'.ex
  have := treeSame_any (ac := 6) (bc := 6) W hn hn' (fun x hx => plain_fit hx) (fun x hx => plainY_fit hx) (show (plainX k).length ≤ 4294967296 by show 6 ≤ 4294967296; decide) (show (plainY k').length ≤ 4294967296 by show 6 ≤ 4294967296; decide)
  rw [plain_nds, plainY_nds, plain_diff] at this
  exact this
theorem pm_of {W : World} {h : Nat} (hb : Blk W (h + 3) ((plainX h).flatMap ndc) 42) (hp : PL W (h + 3)) : PM (W.setCell ⟨h + 3, 66, none⟩ (.int .i64 4)) (h + 3) := by
  obtain ⟨k, e, hn⟩ := hp.ex
  have hk : k = h := by omega
  subst hk
  have hset : Only [k + 3] W (W.setCell ⟨k + 3, 66, none⟩ (.int .i64 4)) := (Only.refl [k + 3] W).set (.inl (by simp)) _
  have hb2 := hb.set 66 (.int .i64 4)
  refine ⟨⟨k, rfl, fun _ => ⟨k + 3, 0, rfl, hb2.lt, hb2.at_⟩, fun x hx => ?_⟩⟩
  have key : ∀ x ∈ plainX k, ∀ (cv : Cv W W.heap.size x), (∀ b off, ∀ n c, x.2 = .slice (some ⟨b, off, none⟩) n c → b ≠ k + 3) → Cv (W.setCell ⟨k + 3, 66, none⟩ (.int .i64 4)) (W.setCell ⟨k + 3, 66, none⟩ (.int .i64 4)).heap.size x := by
    rintro x - ⟨ca, cap, e, hs⟩ hne
    refine ⟨ca, cap, e, fun h0 => ?_⟩
    obtain ⟨b, off, e2, hb3, ha⟩ := hs h0
    subst e2
    exact ⟨b, off, rfl, Nat.lt_of_lt_of_le hb3 hset.size, ha.keep hset (by simp; exact hne b off _ _ e)⟩
  have hcv := hn.cv
  simp only [plainY, plainX, List.set_cons_succ, List.set_cons_zero, List.mem_cons, List.not_mem_nil, or_false] at hx
  have m := fun i (hi : i < 6) => hcv ((plainX k)[i]'hi) (List.getElem_mem _)
  rcases hx with rfl | rfl | rfl | rfl | rfl | rfl
  · exact key _ (List.getElem_mem (l := plainX k) (n := 0) (by show 0 < 6; decide)) (m 0 (by decide)) (by rintro b off n c h; cases h)
  · exact key _ (List.getElem_mem (l := plainX k) (n := 1) (by show 1 < 6; decide)) (m 1 (by decide)) (by rintro b off n c h; cases h)
  · exact key _ (List.getElem_mem (l := plainX k) (n := 2) (by show 2 < 6; decide)) (m 2 (by decide)) (by rintro b off n c h; injection h with h1; injection h1 with h1; injection h1 with h1; omega)
  · exact key _ (List.getElem_mem (l := plainX k) (n := 3) (by show 3 < 6; decide)) (m 3 (by decide)) (by rintro b off n c h; cases h)
  · exact key _ (List.getElem_mem (l := plainX k) (n := 4) (by show 4 < 6; decide)) (m 4 (by decide)) (by rintro b off n c h; injection h with h1; injection h1 with h1; injection h1 with h1; omega)
  · exact ⟨none, 0, rfl, fun h => absurd rfl h⟩
end Go.Proofs.YtmlhibcbgdhadaaDoor
namespace Go.Proofs.YtmlhibcbgdhadaaDoor
open Go.RowKit

theorem plain_n (w : World) : Calls Tryd.prog 26 #[] w fun e w' => (∃ b, e = .returned (.slice (some ⟨b, 0, none⟩) 6 6) ∧ PL w' b) ∧ Only [] w w' :=
  (plain_pl w).mono fun _ _ ⟨h1, h2, h3, _⟩ => ⟨⟨_, h1, h3⟩, h2⟩
theorem plain_l (w : World) : Calls Tryd.prog 26 #[] w fun e w' => (∃ b, e = .returned (.slice (some ⟨b, 0, none⟩) 6 6) ∧ w'.frozen? ⟨b, 66, none⟩ = false ∧ w'.cell? ⟨b, 66, none⟩ = some (.int .i64 1) ∧ PM (w'.setCell ⟨b, 66, none⟩ (.int .i64 4)) b ∧ w.heap.size ≤ b) ∧ Only [] w w' :=
  (plain_pl w).mono fun _ _ ⟨h1, h2, h3, h4⟩ => ⟨⟨_, h1, h4.froz 66, h4.cell 66, pm_of h4 h3, by omega⟩, h2⟩
theorem ints_eq {a : List Int} {ad bd : Option Addr} {ac bc : Nat} (n : Nat) (hn : a.length = n) (w : World) (ha : Sl w ad n (ivI a)) (hb : Sl w bd n (ivI a)) (hla : n ≤ 4294967296) :
    Calls Tryd.prog 22 #[.slice ad n ac, .slice bd n bc] w fun e w' => e = .returned (.bool true) ∧ Only [] w w' := by
  subst hn
  have := sameInts_any (ac := ac) (bc := bc) w ha hb hla hla
  rw [decide_eq_true rfl] at this
  exact this
theorem kids_n {W : World} {b : Nat} (h : PL W b) (hT : Tt W) : Calls Tryd.prog 20 #[.slice (some ⟨b, 0, none⟩) 6 6, .int .i64 1] W fun e w' => (∃ ad c, e = .returned (.slice ad 3 c) ∧ Sl w' ad 3 (ivI [2, 3, 5])) ∧ Only [] W w' :=
  (pl_kids h hT).mono fun e w' ⟨⟨v, h1, h2⟩, h3⟩ => by
    obtain ⟨ad, c, rfl, hs, -⟩ := row_reads h2
    exact ⟨⟨ad, c, h1, hs⟩, h3⟩
theorem path_n {W : World} {b : Nat} (h : PL W b) (hT : Tt W) : Calls Tryd.prog 21 #[.slice (some ⟨b, 0, none⟩) 6 6, .int .i64 4] W fun e w' => (∃ ad c, e = .returned (.slice ad 4 c) ∧ Sl w' ad 4 (ivI [0, 1, 3, 4])) ∧ Only [] W w' :=
  (pl_path4 h hT).mono fun e w' ⟨⟨v, h1, h2⟩, h3⟩ => by
    obtain ⟨ad, c, rfl, hs, -⟩ := row_reads h2
    exact ⟨⟨ad, c, h1, hs⟩, h3⟩
theorem path_0 {W : World} {b : Nat} (h : PL W b) (hT : Tt W) : Calls Tryd.prog 21 #[.slice (some ⟨b, 0, none⟩) 6 6, .int .i64 9] W fun e w' => (∃ ad c, e = .returned (.slice ad 0 c)) ∧ Only [] W w' :=
  (pl_path9 h hT).mono fun e w' ⟨⟨v, h1, h2⟩, h3⟩ => by
    obtain ⟨ad, c, rfl, hs, -⟩ := row_reads h2
    exact ⟨⟨ad, c, h1⟩, h3⟩
theorem str_eq : strN plainT = { data := ([60, 100, 111, 99, 32, 119, 105, 100, 116, 104, 61, 34, 49, 48, 48, 34, 32, 104, 101, 105, 103, 104, 116, 61, 34, 53, 48, 34, 32, 102, 111, 110, 116, 61, 34, 70, 34, 62, 60].append [112, 62, 97, 38, 108, 116, 59, 60, 115, 32, 115, 105, 122, 101, 61, 34, 49, 50, 34, 62, 98, 60, 47, 115, 62, 60, 98, 114, 47, 62, 60, 47, 112, 62, 60, 47, 100, 111, 99, 62]).toArray } := by kernel_rfl
theorem print_n {W : World} {b : Nat} (h : PL W b) (hT : Tt W) : Calls Tryd.prog 13 #[.slice (some ⟨b, 0, none⟩) 6 6] W fun e w' => e = .returned (.tuple #[.string { data := ([60, 100, 111, 99, 32, 119, 105, 100, 116, 104, 61, 34, 49, 48, 48, 34, 32, 104, 101, 105, 103, 104, 116, 61, 34, 53, 48, 34, 32, 102, 111, 110, 116, 61, 34, 70, 34, 62, 60].append [112, 62, 97, 38, 108, 116, 59, 60, 115, 32, 115, 105, 122, 101, 61, 34, 49, 50, 34, 62, 98, 60, 47, 115, 62, 60, 98, 114, 47, 62, 60, 47, 112, 62, 60, 47, 100, 111, 99, 62]).toArray }, .int .i64 0]) ∧ Only [] W w' := by
  rw [← str_eq]; exact pl_print h hT
/-- a row that a walk lays -/
theorem sl_new (w : World) (vs : List Value) (t : TypeId) (n : Nat) : Sl (w.alloc (.cells vs.toArray t)) (some ⟨w.heap.size, 0, none⟩) n vs := fun _ =>
  ⟨_, 0, rfl, (Blk.new w vs.toArray t rfl).lt, (Blk.new w vs.toArray t rfl).at_.2⟩
set_option maxRecDepth 100000 in
set_option maxHeartbeats 8000000 in
theorem shown_any (w : World) (hT : Tt w) : Calls Tryd.prog 10 #[] w fun e w' => e = .returned (.bool true) ∧ Only [] w w' := by
  have HT := hid hT
  clear hT
  go_enter Tryd.func10, Tryd.ntmps10
  go_wp2_with fail
  refine (plain_n _).mono ?_
  rintro e w1 ⟨⟨b1, rfl, p1⟩, o1⟩
  have HP1 := hid p1
  have H1 := hid o1
  clear p1 o1
  go_wp2_with fail
  refine (pl_check HP1.out (HT.out.only H1.out (by simp))).mono ?_
  rintro e w2 ⟨rfl, o⟩
  have H2 := hid (H1.out.trans o)
  clear o
  go_wp2_with fail
  refine (plain_n _).mono ?_
  rintro e w3 ⟨⟨b3, rfl, p⟩, o⟩
  have HP3 := hid p
  have H3 := hid (H2.out.trans o)
  clear p o
  go_wp2_with fail
  refine (print_n HP3.out (HT.out.only H3.out (by simp))).mono ?_
  rintro e w4 ⟨rfl, o⟩
  have H4 := hid (H3.out.trans o)
  clear o
  go_wp2_with fail
  refine (plain_l _).mono ?_
  rintro e w5 ⟨⟨b5, rfl, fz, cl, pm, hb⟩, o⟩
  have HM5 := hid pm
  have H5 := hid (H4.out.trans o)
  have H5' : Hid (Only [] w (w5.setCell ⟨b5, 66, none⟩ (.int .i64 4))) := H5.out.set (.inr (Nat.le_trans H4.out.size hb)) _
  have h66 : (5 : Nat) * 13 + 1 = 66 := rfl
  clear pm o hb
  go_wp2_with fail
  refine (pm_check HM5.out (HT.out.only H5'.out (by simp))).mono ?_
  rintro e w6 ⟨rfl, o⟩
  have HM6 := hid (HM5.out.still o)
  have H6 := hid (H5'.out.trans o)
  clear o fz cl
  go_wp2_with fail
  refine (plain_n _).mono ?_
  rintro e w7 ⟨⟨b7, rfl, p⟩, o⟩
  have HP7 := hid p
  have HM7 := hid (HM6.out.still o)
  have H7 := hid (H6.out.trans o)
  clear p o
  go_wp2_with fail
  refine (kids_n HP7.out (HT.out.only H7.out (by simp))).mono ?_
  rintro e w8 ⟨⟨ad8, c8, rfl, s8⟩, o⟩
  have HS8 := hid s8
  have HM8 := hid (HM7.out.still o)
  have H8 := hid (H7.out.trans o)
  clear s8 o
  go_wp2_with fail
  refine (plain_n _).mono ?_
  rintro e w9 ⟨⟨b9, rfl, p⟩, o⟩
  have HP9 := hid p
  have HS9 := hid (HS8.out.only o)
  have HM9 := hid (HM8.out.still o)
  have H9 := hid (H8.out.trans o)
  clear p o
  go_wp2_with fail
  refine (path_n HP9.out (HT.out.only H9.out (by simp))).mono ?_
  rintro e w10 ⟨⟨ad10, c10, rfl, s10⟩, o⟩
  have HA10 := hid (HS9.out.only o)
  have HB10 := hid s10
  have HM10 := hid (HM9.out.still o)
  have H10 := hid (H9.out.trans o)
  clear s10 o
  go_wp2_with fail
  refine (plain_n _).mono ?_
  rintro e w11 ⟨⟨b11, rfl, p⟩, o⟩
  have HP11 := hid p
  have HA11 := hid (HA10.out.only o)
  have HB11 := hid (HB10.out.only o)
  have HM11 := hid (HM10.out.still o)
  have H11 := hid (H10.out.trans o)
  clear p o
  go_wp2_with fail
  refine (path_0 HP11.out (HT.out.only H11.out (by simp))).mono ?_
  rintro e w12 ⟨⟨ad12, c12, rfl⟩, o⟩
  have HA12 := hid (HA11.out.only o)
  have HB12 := hid (HB11.out.only o)
  have HM12 := hid (HM11.out.still o)
  have H12 := hid (H11.out.trans o)
  clear o
  go_wp2_with fail
  refine (ints_eq (a := [2, 3, 5]) 3 rfl _ (HA12.out.only ((Only.refl _ _).alloc _)) (sl_new _ _ _ _) (by decide)).mono ?_
  rintro e w13 ⟨rfl, o⟩
  have ho := ((Only.refl [] w12).alloc _).trans o
  have HB13 := hid (HB12.out.only ho)
  have HM13 := hid (HM12.out.still ho)
  have H13 := hid (H12.out.trans ho)
  clear o ho
  go_wp2_with fail
  refine (ints_eq (a := [0, 1, 3, 4]) 4 rfl _ (HB13.out.only ((Only.refl _ _).alloc _)) (sl_new _ _ _ _) (by decide)).mono ?_
  rintro e w14 ⟨rfl, o⟩
  have ho := ((Only.refl [] w13).alloc _).trans o
  have HM14 := hid (HM13.out.still ho)
  have H14 := hid (H13.out.trans ho)
  clear o ho
  go_wp2_with fail
  refine (plain_n _).mono ?_
  rintro e w15 ⟨⟨b15, rfl, p⟩, o⟩
  have HP15 := hid p
  have HM15 := hid (HM14.out.still o)
  have H15 := hid (H14.out.trans o)
  clear p o
  go_wp2_with fail
  refine (plain_n _).mono ?_
  rintro e w16 ⟨⟨b16, rfl, p⟩, o⟩
  have HQ16 := hid p
  have HP16 := hid (HP15.out.still o)
  have HM16 := hid (HM15.out.still o)
  have H16 := hid (H15.out.trans o)
  clear p o
  go_wp2_with fail
  refine (pl_same HP16.out HQ16.out).mono ?_
  rintro e w17 ⟨rfl, o⟩
  have HM17 := hid (HM16.out.still o)
  have H17 := hid (H16.out.trans o)
  clear o
  go_wp2_with fail
  refine (plain_n _).mono ?_
  rintro e w18 ⟨⟨b18, rfl, p⟩, o⟩
  have HP18 := hid p
  have HM18 := hid (HM17.out.still o)
  have H18 := hid (H17.out.trans o)
  clear p o
  go_wp2_with fail
  refine (pm_same HP18.out HM18.out).mono ?_
  rintro e w19 ⟨rfl, o⟩
  have H19 := hid (H18.out.trans o)
  clear o
  go_wp2_with fail
  go_ret
  exact ⟨rfl, H19.out⟩
end Go.Proofs.YtmlhibcbgdhadaaDoor
