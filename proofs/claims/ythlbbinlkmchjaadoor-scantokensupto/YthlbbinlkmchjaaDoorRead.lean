/- The reference's Read: the runes ahead of the first byte that can't stand, and that byte. -/
import Derived.Test.YthlbbinlkmchjaaDoorCheck
import Derived.Test.YthlbbinlkmchjaaDoorTok
import Derived.Test.YthlbbinlkmchjaaDoorRefs
namespace Go.Proofs.YthlbbinlkmchjaaDoor
open Go.RowKit

/-- places and runes in a row -/
def flat (xs : List (Nat × Nat)) : List Value := xs.flatMap fun x => [.int .i64 x.1, .int .i64 x.2]
theorem flat_snoc (xs : List (Nat × Nat)) (x : Nat × Nat) : flat (xs ++ [x]) = flat xs ++ [.int .i64 x.1, .int .i64 x.2] := by simp [flat]
theorem cell_two_new (w : World) (x y : Value) (t : TypeId) {m : Nat} (hm : w.heap.size = m) : ∀ j u, [x, y][j]? = some u → (w.alloc (.cells #[x, y] t)).cell? ((⟨m, 0, none⟩ : Addr).add j) = some u := by
  subst hm
  intro j u hj
  match j, hj with
  | 0, hj => simp at hj; subst hj; simp [Addr.add]
  | 1, hj => simp at hj; subst hj; simp [Addr.add]
def atOf : Option Nat → Int
  | none => 0
  | some A => A
theorem info28 : (Tryd.prog.info? 82).map (fun i => (i.zero, i.size, i.bytes)) = some (some (.agg #[.int .i64 0, .int .i64 0]), 2, 16) := by kernel_rfl
theorem two_cells_new {W : World} {x y : Value} {t : TypeId} {m : Nat} (hm : W.heap.size = m) : ∀ j u, [x, y][j]? = some u → (W.alloc (.cells #[x, y] t)).cell? ((⟨m, 0, none⟩ : Addr).add j) = some u := cell_two_new _ _ _ _ hm
/-- whether there is such a byte -/
def isBad : Option Nat → Bool
  | none => false
  | some _ => true
theorem byte_at (s : ByteArray) (p j : Nat) (h : p + j < s.size) : ∃ x : UInt8, s[p + j]'h = x ∧ x.toNat = ((bl s).drop p).getD j 0 := by
  refine ⟨_, rfl, ?_⟩
  rw [bl_at, List.getD_eq_getElem?_getD, List.getD_eq_getElem?_getD, List.getElem?_drop]

/-- what is asked of a place in the text -/
structure AtP (l : List Nat) (k p : Nat) : Prop where
  len : (rl k 0 l).length = k
  pos : pos k l = p
  le : p ≤ l.length
theorem AtP.next {l : List Nat} {k p : Nat} (h : AtP l k p) (hb : bad (l.drop p) = none) : AtP l (k + 1) (p + wd (l.drop p)) ∧ flat (rl (k + 1) 0 l) = flat (rl k 0 l) ++ [.int .i64 p, .int .i64 (rune (l.drop p))] := by
  have hs := rl_snoc 0 h.len (by rw [h.pos]; exact hb)
  rw [h.pos, Nat.zero_add] at hs
  refine ⟨⟨by rw [hs.1]; simp [h.len], hs.2, ?_⟩, by rw [hs.1, flat_snoc]⟩
  have := pos_le (k + 1) l
  rw [hs.2] at this
  exact this
theorem AtP.stop {l : List Nat} {k p e : Nat} (h : AtP l k p) (hp : p < l.length) (hb : bad (l.drop p) = some e) : chk l = some (p + e) ∧ rl k 0 l = rs l := by
  have ha := all_of_bad h.len (by rw [h.pos, hb]; simp)
  rw [h.pos] at ha
  refine ⟨?_, ha.1⟩
  unfold chk
  rw [← ha.2, if_neg (by omega), hb]
  rfl
theorem AtP.stop_end {l : List Nat} {k : Nat} (h : AtP l k l.length) : chk l = none ∧ rl k 0 l = rs l := by
  have ha := all_of_bad h.len (by rw [h.pos, List.drop_length]; simp [bad_nil])
  rw [h.pos] at ha
  exact ⟨chk_none.2 ha.2.symm, ha.1⟩

theorem bad_zero {l : List Nat} (h : wd l = 0) : bad l = some 0 := by
  unfold bad badN; rw [if_pos (.inr h)]
theorem rune_one {l : List Nat} (h : wd l = 1) : rune l = l.getD 0 0 := by
  unfold rune runeN; rw [if_pos (show wide (l.getD 0 0) = 1 from h)]
/-- the same, of a byte by itself, too -/
def accR (l : List Nat) (j : Nat) : Nat := if wd l = 1 then l.getD 0 0 else acc l j
theorem accR_rune {l : List Nat} (h : 1 ≤ wd l) : accR l (wd l) = rune l := by
  unfold accR
  by_cases h1 : wd l = 1
  · rw [if_pos h1, rune_one h1]
  · rw [if_neg h1, acc_rune (by omega)]
theorem accR_succ {l : List Nat} {j : Nat} (h : wd l ≠ 1) (hj : 1 ≤ j) : accR l (j + 1) = accR l j * 64 + l.getD j 0 % 64 := by
  unfold accR
  rw [if_neg h, if_neg h]
  obtain ⟨i, rfl⟩ : ∃ i, j = i + 1 := ⟨j - 1, by omega⟩
  rfl
set_option maxRecDepth 100000 in
set_option maxHeartbeats 8000000 in
theorem read_any (s : ByteArray) (w : World) (hs : s.size ≤ 1099511627776) :
    Calls Tryd.prog 48 #[.string s] w fun e w' => ∃ v, e = .returned (.tuple #[v, .int .i64 (atOf (chk (bl s))), .bool (isBad (chk (bl s)))]) ∧
      w'.ownsRow w.heap.size 82 2 v (rs (bl s)).length (flat (rs (bl s))) ∧ Below w.heap.size w w' := by
  obtain ⟨i0, hinf, hz0, hz1, hz2⟩ := info_parts info28
  have hs2 : (s.size : Int) ≤ 1099511627776 := by omega
  go_enter Tryd.func48, Tryd.ntmps48
  go_wp2
  have hrow0 : (w.alloc (.cells #[] 82)).ownsRow w.heap.size 82 2 (.slice (some ⟨w.heap.size, 0, none⟩) 0 0) 0 [] :=
    ⟨rfl, .inr ⟨_, 0, #[], rfl, Nat.le_refl _, World.alloc_heap_new _ _, Nat.le_refl _, by decide, rfl, rfl⟩⟩
  go_loopw [5, 6] (fun v a wr => ∃ (k p : Nat) (vv : Value), vv = v ∧ a = .int .i64 p ∧ AtP (bl s) k p ∧ wr.ownsRow w.heap.size 82 2 vv k (flat (rl k 0 (bl s))) ∧ Below w.heap.size w wr)
    (fun _ a _ => s.size - (RowKit.intOf a).toNat)
  case atStart => exact ⟨0, 0, _, rfl, rfl, ⟨rfl, rfl, Nat.zero_le _⟩, hrow0, (Below.refl _ w).alloc (Nat.le_refl _) _⟩
  case round =>
    obtain ⟨k, p, v, hvv, rfl, hat, hrow, hbl⟩ := hrel
    subst hvv
    have HAT : Hid (AtP (bl s) k p) := hat
    have hple := hat.le
    rw [bl_length] at hple
    have HBL : Hid (Below w.heap.size w wr) := hbl
    have hkp : k ≤ p := by
      have := rl_length_pos k 0 (bl s)
      rw [hat.len, hat.pos] at this
      exact this
    clear hat hbl hrow0
    have hp0 : (0 : Int) ≤ (p : Int) := by omega
    by_cases hlt : p < s.size
    · have hpi : (p : Int) < (s.size : Int) := by omega
      obtain ⟨x0, hx0, hxq⟩ := byte_at s p 0 hlt
      have hx0' : s[p]'hlt = x0 := hx0
      have hx256 := x0.toNat_lt
      have hqne : (bl s).drop p ≠ [] := by
        intro h
        have := congrArg List.length h
        rw [List.length_drop, bl_length] at this
        simp at this
        omega
      have hwd : wide x0.toNat = wd ((bl s).drop p) := by rw [hxq]; rfl
      have HW := wide_any x0.toNat wr (by omega)
      rw [hwd] at HW
      have HQ : Hid ((bl s).drop p ≠ []) := hqne
      have HX : Hid (x0.toNat = ((bl s).drop p).getD 0 0) := hxq
      clear hx0 hqne hxq hwd
      have hw4 : wd ((bl s).drop p) ≤ 4 := wide_le _
      rcases (by omega : wd ((bl s).drop p) = 0 ∨ wd ((bl s).drop p) = 1 ∨ wd ((bl s).drop p) = 2 ∨ wd ((bl s).drop p) = 3 ∨ wd ((bl s).drop p) = 4) with hn | hn | hn | hn | hn
      · -- no rune begins so
        have HN : Hid (wd ((bl s).drop p) = 0) := hn
        rw [hn] at HW
        clear hn hw4
        go_wp2_with (go_at_call 69; refine (HW).mono ?_; rintro e w' ⟨rfl, rfl⟩)
        have hst := HAT.out.stop (by rw [bl_length]; exact hlt) (bad_zero HN.out)
        refine bodyPost_ret (v := .tuple #[v, .int .i64 p, .bool true]) (by simp [results, Tryd.f48, go_sem]) rfl ⟨v, ?_, ?_, HBL.out⟩
        · rw [hst.1]; rfl
        · rw [← hst.2, HAT.out.len]; exact hrow
      · -- of 1
        have HN : Hid (wd ((bl s).drop p) = 1) := hn
        have ha1 : accR ((bl s).drop p) 1 = x0.toNat := by unfold accR acc; simp [hn, HX.out]
        rw [hn] at HW
        have hxi : (x0.toNat : Int) ≤ 255 := by omega
        have hxi0 : (0 : Int) ≤ (x0.toNat : Int) := by omega
        have HA1 : Hid (accR ((bl s).drop p) 1 = x0.toNat) := ha1
        clear hn hw4 ha1
        go_wp2_with (go_at_call 69; refine (HW).mono ?_; rintro e w' ⟨rfl, rfl⟩)
        obtain ⟨W2, hW2⟩ : ∃ W2, w' = W2 := ⟨_, rfl⟩
        rw [hW2] at hrow HBL ⊢
        clear hW2 HW
        have hrow2 := hrow
        clear hrow
        go_loop [9, 10] (fun r i => ∃ j : Nat, 1 ≤ j ∧ j ≤ 1 ∧ i = .int .i64 j ∧ r = .int .i64 (accR ((bl s).drop p) j) ∧ Hid (∀ i, 1 ≤ i → i < j → St ((bl s).drop p) i)) (fun _ i => 1 - (RowKit.intOf i).toNat)
        case atStart => exact ⟨1, by omega, by omega, rfl, by rw [HA1.out] <;> first | rfl | simp, fun i h1 h2 => by omega⟩
        case round =>
          obtain ⟨j, hj1, hj2, rfl, rfl, HST⟩ := hrel
          have hj0 : (1 : Int) ≤ (j : Int) := by omega
          have hacl : accR ((bl s).drop p) j ≤ 16777216 := by
            unfold accR
            split
            · rw [← HX.out]; omega
            · exact acc_le j (by omega)
          by_cases hjn : j < 1
          · exfalso; omega
          · obtain rfl : j = 1 := by omega
            have hb : bad ((bl s).drop p) = none := good_st HQ.out (by rw [HN.out]; omega) (fun i h1 h2 => HST.out i h1 (by rw [HN.out] at h2; exact h2))
            have HNX : Hid (AtP (bl s) (k + 1) (p + 1) ∧ flat (rl (k + 1) 0 (bl s)) = flat (rl k 0 (bl s)) ++ [.int .i64 p, .int .i64 (accR ((bl s).drop p) 1)]) := by
              have h := HAT.out.next hb
              have h2 := accR_rune (l := (bl s).drop p) (by rw [HN.out]; omega)
              rw [HN.out] at h h2
              rw [h2]
              exact h
            clear hb HA1
            generalize accR ((bl s).drop p) 1 = ac at *
            have happ : ∀ v' w1, w1.ownsRow w.heap.size 82 2 v' (k + 1) (flat (rl k 0 (bl s)) ++ [.int .i64 p, .int .i64 ac]) → (W2.alloc (.cells #[.int .i64 p, .int .i64 ac] 82)).grownBy w1 v.ownBlock → Below w.heap.size w w1 := fun v' w1 _ hg =>
              (HBL.out.alloc HBL.out.size _).grown hg (by simp; exact Nat.le_succ_of_le HBL.out.size) (fun j ej => (hrow2.lt j ej).1)
            go_wp2_with (at_builtin; refine wpList_append_own _ rfl _ _ 78 rfl w.heap.size 82 i0 (.agg #[.int .i64 0, .int .i64 0]) 2 16 Tryd.underlying78 hinf hz0 hz1 hz2 rfl (by decide) _ _ _ rfl (hrow2.alloc _) ⟨W2.heap.size, 0, none⟩ 1 1 [.int .i64 p, .int .i64 ac] rfl rfl (two_cells_new rfl) (by simp [Value.oneCell']) (by unfold maxLen; omega) (by omega) (by have := HBL.out.size; simp; omega) ?_; intro v' w1 hown hgrow _)
            have HB1 : Hid (Below w.heap.size w w1) := happ v' w1 hown hgrow
            have HOW : Hid (w1.ownsRow w.heap.size 82 2 v' (k + 1) (flat (rl k 0 (bl s)) ++ [.int .i64 p, .int .i64 ac])) := hown
            clear happ hown hgrow hrow2
            go_roundw
            case rel => exact ⟨k + 1, p + 1, v', rfl, by go_num, HNX.out.1, by rw [HNX.out.2]; exact HOW.out, HB1.out⟩
            case measure => simp [RowKit.intOf]; omega
      · -- of 2
        have HN : Hid (wd ((bl s).drop p) = 2) := hn
        have ha1 : accR ((bl s).drop p) 1 = x0.toNat % 32 := by unfold accR acc; simp [hn, HX.out]
        rw [hn] at HW
        have hxi : (x0.toNat : Int) ≤ 255 := by omega
        have hxi0 : (0 : Int) ≤ (x0.toNat : Int) := by omega
        have HA1 : Hid (accR ((bl s).drop p) 1 = x0.toNat % 32) := ha1
        clear hn hw4 ha1
        go_wp2_with (go_at_call 69; refine (HW).mono ?_; rintro e w' ⟨rfl, rfl⟩)
        obtain ⟨W2, hW2⟩ : ∃ W2, w'.alloc (.cells #[.int .i64 0, .int .i64 0, .int .i64 32, .int .i64 16, .int .i64 8] 3) = W2 := ⟨_, rfl⟩
        have hrow2 : W2.ownsRow w.heap.size 82 2 v k (flat (rl k 0 (bl s))) := by rw [← hW2]; exact hrow.alloc _
        have HBL2 : Hid (Below w.heap.size w W2) := by rw [← hW2]; exact HBL.out.alloc HBL.out.size _
        rw [hW2]
        clear hW2 HW HBL hrow
        have HBL : Hid (Below w.heap.size w W2) := HBL2.out
        clear HBL2
        go_loop [9, 10] (fun r i => ∃ j : Nat, 1 ≤ j ∧ j ≤ 2 ∧ i = .int .i64 j ∧ r = .int .i64 (accR ((bl s).drop p) j) ∧ Hid (∀ i, 1 ≤ i → i < j → St ((bl s).drop p) i)) (fun _ i => 2 - (RowKit.intOf i).toNat)
        case atStart => exact ⟨1, by omega, by omega, rfl, by rw [HA1.out] <;> first | rfl | simp, fun i h1 h2 => by omega⟩
        case round =>
          obtain ⟨j, hj1, hj2, rfl, rfl, HST⟩ := hrel
          have hj0 : (1 : Int) ≤ (j : Int) := by omega
          have hacl : accR ((bl s).drop p) j ≤ 16777216 := by
            unfold accR
            split
            · rw [← HX.out]; omega
            · exact acc_le j (by omega)
          by_cases hjn : j < 2
          · have hji : (j : Int) < 2 := by omega
            have hw1 : wd ((bl s).drop p) ≠ 1 := by rw [HN.out]; omega
            by_cases hend : p + j < s.size
            · obtain ⟨y, hy, hyq⟩ := byte_at s p j hend
              have hpj : (p : Int) + (j : Int) < (s.size : Int) := by omega
              have hpj0 : (0 : Int) ≤ (p : Int) + (j : Int) := by omega
              have hy256 := y.toNat_lt
              have hsb : stB x0.toNat j y.toNat = decide (lo (((bl s).drop p).getD 0 0) j ≤ ((bl s).drop p).getD j 0 ∧ ((bl s).drop p).getD j 0 ≤ hi (((bl s).drop p).getD 0 0) j) := by unfold stB; rw [HX.out, hyq]
              have HS := stands_any x0.toNat j y.toNat W2
              have hlq : j < ((bl s).drop p).length := by rw [List.length_drop, bl_length]; omega
              by_cases hst : St ((bl s).drop p) j
              · rw [hsb, decide_eq_true hst.2] at HS
                have hsucc := accR_succ (l := (bl s).drop p) (j := j) hw1 hj1
                rw [← hyq] at hsucc
                have HSU : Hid (accR ((bl s).drop p) (j + 1) = accR ((bl s).drop p) j * 64 + y.toNat % 64) := hsucc
                have HST2 : Hid (∀ i, 1 ≤ i → i < j + 1 → St ((bl s).drop p) i) := fun i h1 h2 => by
                  rcases Nat.lt_or_ge i j with g | g
                  · exact HST.out i h1 g
                  · obtain rfl : i = j := by omega
                    exact hst
                clear hst hsb hyq hsucc hw1 hlq
                generalize accR ((bl s).drop p) j = ac at *
                have hac1 : (ac : Int) ≤ 16777216 := by omega
                have hac0 : (0 : Int) ≤ (ac : Int) := by omega
                have hyi : (y.toNat : Int) ≤ 255 := by omega
                have hyi0 : (0 : Int) ≤ (y.toNat : Int) := by omega
                go_wp2_with (go_at_call 70; refine (HS).mono ?_; rintro e w' ⟨rfl, rfl⟩)
                go_round
                case rel => exact ⟨j + 1, by omega, by omega, by go_num, by rw [HSU.out]; go_num, HST2⟩
                case measure => simp [RowKit.intOf]; omega
              · have hbd := bad_st HQ.out hj1 (by rw [HN.out]; exact hjn) HST.out hst
                have hsp := HAT.out.stop (by rw [bl_length]; exact hlt) hbd
                have HSP : Hid (chk (bl s) = some (p + j) ∧ rl k 0 (bl s) = rs (bl s)) := hsp
                rw [hsb, decide_eq_false (fun h => hst ⟨hlq, h⟩)] at HS
                clear hst hsb hyq hw1 hlq hbd hsp
                go_wp2_with (go_at_call 70; refine (HS).mono ?_; rintro e w' ⟨rfl, rfl⟩)
                refine bodyPost_ret (v := .tuple #[v, .int .i64 ((p : Int) + (j : Int)), .bool true]) (by simp [results, Tryd.f48, go_sem]) rfl ⟨v, ?_, ?_, HBL.out⟩
                · rw [HSP.out.1]; rfl
                · rw [← HSP.out.2, HAT.out.len]; exact hrow2
            · have hst : ¬ St ((bl s).drop p) j := fun h => by
                have := h.1
                rw [List.length_drop, bl_length] at this
                omega
              have hbd := bad_st HQ.out hj1 (by rw [HN.out]; exact hjn) HST.out hst
              have hsp := HAT.out.stop (by rw [bl_length]; exact hlt) hbd
              have HSP : Hid (chk (bl s) = some (p + j) ∧ rl k 0 (bl s) = rs (bl s)) := hsp
              have hpj : ¬ (p : Int) + (j : Int) < (s.size : Int) := by omega
              have hpj1 : (p : Int) + (j : Int) ≤ 1099511627780 := by omega
              clear hst hw1 hbd hsp
              go_wp2_with fail
              refine bodyPost_ret (v := .tuple #[v, .int .i64 ((p : Int) + (j : Int)), .bool true]) (by simp [results, Tryd.f48, go_sem]) rfl ⟨v, ?_, ?_, HBL.out⟩
              · rw [HSP.out.1]; rfl
              · rw [← HSP.out.2, HAT.out.len]; exact hrow2
          · obtain rfl : j = 2 := by omega
            have hb : bad ((bl s).drop p) = none := good_st HQ.out (by rw [HN.out]; omega) (fun i h1 h2 => HST.out i h1 (by rw [HN.out] at h2; exact h2))
            have HNX : Hid (AtP (bl s) (k + 1) (p + 2) ∧ flat (rl (k + 1) 0 (bl s)) = flat (rl k 0 (bl s)) ++ [.int .i64 p, .int .i64 (accR ((bl s).drop p) 2)]) := by
              have h := HAT.out.next hb
              have h2 := accR_rune (l := (bl s).drop p) (by rw [HN.out]; omega)
              rw [HN.out] at h h2
              rw [h2]
              exact h
            clear hb HA1
            generalize accR ((bl s).drop p) 2 = ac at *
            have happ : ∀ v' w1, w1.ownsRow w.heap.size 82 2 v' (k + 1) (flat (rl k 0 (bl s)) ++ [.int .i64 p, .int .i64 ac]) → (W2.alloc (.cells #[.int .i64 p, .int .i64 ac] 82)).grownBy w1 v.ownBlock → Below w.heap.size w w1 := fun v' w1 _ hg =>
              (HBL.out.alloc HBL.out.size _).grown hg (by simp; exact Nat.le_succ_of_le HBL.out.size) (fun j ej => (hrow2.lt j ej).1)
            go_wp2_with (at_builtin; refine wpList_append_own _ rfl _ _ 78 rfl w.heap.size 82 i0 (.agg #[.int .i64 0, .int .i64 0]) 2 16 Tryd.underlying78 hinf hz0 hz1 hz2 rfl (by decide) _ _ _ rfl (hrow2.alloc _) ⟨W2.heap.size, 0, none⟩ 1 1 [.int .i64 p, .int .i64 ac] rfl rfl (two_cells_new rfl) (by simp [Value.oneCell']) (by unfold maxLen; omega) (by omega) (by have := HBL.out.size; simp; omega) ?_; intro v' w1 hown hgrow _)
            have HB1 : Hid (Below w.heap.size w w1) := happ v' w1 hown hgrow
            have HOW : Hid (w1.ownsRow w.heap.size 82 2 v' (k + 1) (flat (rl k 0 (bl s)) ++ [.int .i64 p, .int .i64 ac])) := hown
            clear happ hown hgrow hrow2
            go_roundw
            case rel => exact ⟨k + 1, p + 2, v', rfl, by go_num, HNX.out.1, by rw [HNX.out.2]; exact HOW.out, HB1.out⟩
            case measure => simp [RowKit.intOf]; omega
      · -- of 3
        have HN : Hid (wd ((bl s).drop p) = 3) := hn
        have ha1 : accR ((bl s).drop p) 1 = x0.toNat % 16 := by unfold accR acc; simp [hn, HX.out]
        rw [hn] at HW
        have hxi : (x0.toNat : Int) ≤ 255 := by omega
        have hxi0 : (0 : Int) ≤ (x0.toNat : Int) := by omega
        have HA1 : Hid (accR ((bl s).drop p) 1 = x0.toNat % 16) := ha1
        clear hn hw4 ha1
        go_wp2_with (go_at_call 69; refine (HW).mono ?_; rintro e w' ⟨rfl, rfl⟩)
        obtain ⟨W2, hW2⟩ : ∃ W2, w'.alloc (.cells #[.int .i64 0, .int .i64 0, .int .i64 32, .int .i64 16, .int .i64 8] 3) = W2 := ⟨_, rfl⟩
        have hrow2 : W2.ownsRow w.heap.size 82 2 v k (flat (rl k 0 (bl s))) := by rw [← hW2]; exact hrow.alloc _
        have HBL2 : Hid (Below w.heap.size w W2) := by rw [← hW2]; exact HBL.out.alloc HBL.out.size _
        rw [hW2]
        clear hW2 HW HBL hrow
        have HBL : Hid (Below w.heap.size w W2) := HBL2.out
        clear HBL2
        go_loop [9, 10] (fun r i => ∃ j : Nat, 1 ≤ j ∧ j ≤ 3 ∧ i = .int .i64 j ∧ r = .int .i64 (accR ((bl s).drop p) j) ∧ Hid (∀ i, 1 ≤ i → i < j → St ((bl s).drop p) i)) (fun _ i => 3 - (RowKit.intOf i).toNat)
        case atStart => exact ⟨1, by omega, by omega, rfl, by rw [HA1.out] <;> first | rfl | simp, fun i h1 h2 => by omega⟩
        case round =>
          obtain ⟨j, hj1, hj2, rfl, rfl, HST⟩ := hrel
          have hj0 : (1 : Int) ≤ (j : Int) := by omega
          have hacl : accR ((bl s).drop p) j ≤ 16777216 := by
            unfold accR
            split
            · rw [← HX.out]; omega
            · exact acc_le j (by omega)
          by_cases hjn : j < 3
          · have hji : (j : Int) < 3 := by omega
            have hw1 : wd ((bl s).drop p) ≠ 1 := by rw [HN.out]; omega
            by_cases hend : p + j < s.size
            · obtain ⟨y, hy, hyq⟩ := byte_at s p j hend
              have hpj : (p : Int) + (j : Int) < (s.size : Int) := by omega
              have hpj0 : (0 : Int) ≤ (p : Int) + (j : Int) := by omega
              have hy256 := y.toNat_lt
              have hsb : stB x0.toNat j y.toNat = decide (lo (((bl s).drop p).getD 0 0) j ≤ ((bl s).drop p).getD j 0 ∧ ((bl s).drop p).getD j 0 ≤ hi (((bl s).drop p).getD 0 0) j) := by unfold stB; rw [HX.out, hyq]
              have HS := stands_any x0.toNat j y.toNat W2
              have hlq : j < ((bl s).drop p).length := by rw [List.length_drop, bl_length]; omega
              by_cases hst : St ((bl s).drop p) j
              · rw [hsb, decide_eq_true hst.2] at HS
                have hsucc := accR_succ (l := (bl s).drop p) (j := j) hw1 hj1
                rw [← hyq] at hsucc
                have HSU : Hid (accR ((bl s).drop p) (j + 1) = accR ((bl s).drop p) j * 64 + y.toNat % 64) := hsucc
                have HST2 : Hid (∀ i, 1 ≤ i → i < j + 1 → St ((bl s).drop p) i) := fun i h1 h2 => by
                  rcases Nat.lt_or_ge i j with g | g
                  · exact HST.out i h1 g
                  · obtain rfl : i = j := by omega
                    exact hst
                clear hst hsb hyq hsucc hw1 hlq
                generalize accR ((bl s).drop p) j = ac at *
                have hac1 : (ac : Int) ≤ 16777216 := by omega
                have hac0 : (0 : Int) ≤ (ac : Int) := by omega
                have hyi : (y.toNat : Int) ≤ 255 := by omega
                have hyi0 : (0 : Int) ≤ (y.toNat : Int) := by omega
                go_wp2_with (go_at_call 70; refine (HS).mono ?_; rintro e w' ⟨rfl, rfl⟩)
                go_round
                case rel => exact ⟨j + 1, by omega, by omega, by go_num, by rw [HSU.out]; go_num, HST2⟩
                case measure => simp [RowKit.intOf]; omega
              · have hbd := bad_st HQ.out hj1 (by rw [HN.out]; exact hjn) HST.out hst
                have hsp := HAT.out.stop (by rw [bl_length]; exact hlt) hbd
                have HSP : Hid (chk (bl s) = some (p + j) ∧ rl k 0 (bl s) = rs (bl s)) := hsp
                rw [hsb, decide_eq_false (fun h => hst ⟨hlq, h⟩)] at HS
                clear hst hsb hyq hw1 hlq hbd hsp
                go_wp2_with (go_at_call 70; refine (HS).mono ?_; rintro e w' ⟨rfl, rfl⟩)
                refine bodyPost_ret (v := .tuple #[v, .int .i64 ((p : Int) + (j : Int)), .bool true]) (by simp [results, Tryd.f48, go_sem]) rfl ⟨v, ?_, ?_, HBL.out⟩
                · rw [HSP.out.1]; rfl
                · rw [← HSP.out.2, HAT.out.len]; exact hrow2
            · have hst : ¬ St ((bl s).drop p) j := fun h => by
                have := h.1
                rw [List.length_drop, bl_length] at this
                omega
              have hbd := bad_st HQ.out hj1 (by rw [HN.out]; exact hjn) HST.out hst
              have hsp := HAT.out.stop (by rw [bl_length]; exact hlt) hbd
              have HSP : Hid (chk (bl s) = some (p + j) ∧ rl k 0 (bl s) = rs (bl s)) := hsp
              have hpj : ¬ (p : Int) + (j : Int) < (s.size : Int) := by omega
              have hpj1 : (p : Int) + (j : Int) ≤ 1099511627780 := by omega
              clear hst hw1 hbd hsp
              go_wp2_with fail
              refine bodyPost_ret (v := .tuple #[v, .int .i64 ((p : Int) + (j : Int)), .bool true]) (by simp [results, Tryd.f48, go_sem]) rfl ⟨v, ?_, ?_, HBL.out⟩
              · rw [HSP.out.1]; rfl
              · rw [← HSP.out.2, HAT.out.len]; exact hrow2
          · obtain rfl : j = 3 := by omega
            have hb : bad ((bl s).drop p) = none := good_st HQ.out (by rw [HN.out]; omega) (fun i h1 h2 => HST.out i h1 (by rw [HN.out] at h2; exact h2))
            have HNX : Hid (AtP (bl s) (k + 1) (p + 3) ∧ flat (rl (k + 1) 0 (bl s)) = flat (rl k 0 (bl s)) ++ [.int .i64 p, .int .i64 (accR ((bl s).drop p) 3)]) := by
              have h := HAT.out.next hb
              have h2 := accR_rune (l := (bl s).drop p) (by rw [HN.out]; omega)
              rw [HN.out] at h h2
              rw [h2]
              exact h
            clear hb HA1
            generalize accR ((bl s).drop p) 3 = ac at *
            have happ : ∀ v' w1, w1.ownsRow w.heap.size 82 2 v' (k + 1) (flat (rl k 0 (bl s)) ++ [.int .i64 p, .int .i64 ac]) → (W2.alloc (.cells #[.int .i64 p, .int .i64 ac] 82)).grownBy w1 v.ownBlock → Below w.heap.size w w1 := fun v' w1 _ hg =>
              (HBL.out.alloc HBL.out.size _).grown hg (by simp; exact Nat.le_succ_of_le HBL.out.size) (fun j ej => (hrow2.lt j ej).1)
            go_wp2_with (at_builtin; refine wpList_append_own _ rfl _ _ 78 rfl w.heap.size 82 i0 (.agg #[.int .i64 0, .int .i64 0]) 2 16 Tryd.underlying78 hinf hz0 hz1 hz2 rfl (by decide) _ _ _ rfl (hrow2.alloc _) ⟨W2.heap.size, 0, none⟩ 1 1 [.int .i64 p, .int .i64 ac] rfl rfl (two_cells_new rfl) (by simp [Value.oneCell']) (by unfold maxLen; omega) (by omega) (by have := HBL.out.size; simp; omega) ?_; intro v' w1 hown hgrow _)
            have HB1 : Hid (Below w.heap.size w w1) := happ v' w1 hown hgrow
            have HOW : Hid (w1.ownsRow w.heap.size 82 2 v' (k + 1) (flat (rl k 0 (bl s)) ++ [.int .i64 p, .int .i64 ac])) := hown
            clear happ hown hgrow hrow2
            go_roundw
            case rel => exact ⟨k + 1, p + 3, v', rfl, by go_num, HNX.out.1, by rw [HNX.out.2]; exact HOW.out, HB1.out⟩
            case measure => simp [RowKit.intOf]; omega
      · -- of 4
        have HN : Hid (wd ((bl s).drop p) = 4) := hn
        have ha1 : accR ((bl s).drop p) 1 = x0.toNat % 8 := by unfold accR acc; simp [hn, HX.out]
        rw [hn] at HW
        have hxi : (x0.toNat : Int) ≤ 255 := by omega
        have hxi0 : (0 : Int) ≤ (x0.toNat : Int) := by omega
        have HA1 : Hid (accR ((bl s).drop p) 1 = x0.toNat % 8) := ha1
        clear hn hw4 ha1
        go_wp2_with (go_at_call 69; refine (HW).mono ?_; rintro e w' ⟨rfl, rfl⟩)
        obtain ⟨W2, hW2⟩ : ∃ W2, w'.alloc (.cells #[.int .i64 0, .int .i64 0, .int .i64 32, .int .i64 16, .int .i64 8] 3) = W2 := ⟨_, rfl⟩
        have hrow2 : W2.ownsRow w.heap.size 82 2 v k (flat (rl k 0 (bl s))) := by rw [← hW2]; exact hrow.alloc _
        have HBL2 : Hid (Below w.heap.size w W2) := by rw [← hW2]; exact HBL.out.alloc HBL.out.size _
        rw [hW2]
        clear hW2 HW HBL hrow
        have HBL : Hid (Below w.heap.size w W2) := HBL2.out
        clear HBL2
        go_loop [9, 10] (fun r i => ∃ j : Nat, 1 ≤ j ∧ j ≤ 4 ∧ i = .int .i64 j ∧ r = .int .i64 (accR ((bl s).drop p) j) ∧ Hid (∀ i, 1 ≤ i → i < j → St ((bl s).drop p) i)) (fun _ i => 4 - (RowKit.intOf i).toNat)
        case atStart => exact ⟨1, by omega, by omega, rfl, by rw [HA1.out] <;> first | rfl | simp, fun i h1 h2 => by omega⟩
        case round =>
          obtain ⟨j, hj1, hj2, rfl, rfl, HST⟩ := hrel
          have hj0 : (1 : Int) ≤ (j : Int) := by omega
          have hacl : accR ((bl s).drop p) j ≤ 16777216 := by
            unfold accR
            split
            · rw [← HX.out]; omega
            · exact acc_le j (by omega)
          by_cases hjn : j < 4
          · have hji : (j : Int) < 4 := by omega
            have hw1 : wd ((bl s).drop p) ≠ 1 := by rw [HN.out]; omega
            by_cases hend : p + j < s.size
            · obtain ⟨y, hy, hyq⟩ := byte_at s p j hend
              have hpj : (p : Int) + (j : Int) < (s.size : Int) := by omega
              have hpj0 : (0 : Int) ≤ (p : Int) + (j : Int) := by omega
              have hy256 := y.toNat_lt
              have hsb : stB x0.toNat j y.toNat = decide (lo (((bl s).drop p).getD 0 0) j ≤ ((bl s).drop p).getD j 0 ∧ ((bl s).drop p).getD j 0 ≤ hi (((bl s).drop p).getD 0 0) j) := by unfold stB; rw [HX.out, hyq]
              have HS := stands_any x0.toNat j y.toNat W2
              have hlq : j < ((bl s).drop p).length := by rw [List.length_drop, bl_length]; omega
              by_cases hst : St ((bl s).drop p) j
              · rw [hsb, decide_eq_true hst.2] at HS
                have hsucc := accR_succ (l := (bl s).drop p) (j := j) hw1 hj1
                rw [← hyq] at hsucc
                have HSU : Hid (accR ((bl s).drop p) (j + 1) = accR ((bl s).drop p) j * 64 + y.toNat % 64) := hsucc
                have HST2 : Hid (∀ i, 1 ≤ i → i < j + 1 → St ((bl s).drop p) i) := fun i h1 h2 => by
                  rcases Nat.lt_or_ge i j with g | g
                  · exact HST.out i h1 g
                  · obtain rfl : i = j := by omega
                    exact hst
                clear hst hsb hyq hsucc hw1 hlq
                generalize accR ((bl s).drop p) j = ac at *
                have hac1 : (ac : Int) ≤ 16777216 := by omega
                have hac0 : (0 : Int) ≤ (ac : Int) := by omega
                have hyi : (y.toNat : Int) ≤ 255 := by omega
                have hyi0 : (0 : Int) ≤ (y.toNat : Int) := by omega
                go_wp2_with (go_at_call 70; refine (HS).mono ?_; rintro e w' ⟨rfl, rfl⟩)
                go_round
                case rel => exact ⟨j + 1, by omega, by omega, by go_num, by rw [HSU.out]; go_num, HST2⟩
                case measure => simp [RowKit.intOf]; omega
              · have hbd := bad_st HQ.out hj1 (by rw [HN.out]; exact hjn) HST.out hst
                have hsp := HAT.out.stop (by rw [bl_length]; exact hlt) hbd
                have HSP : Hid (chk (bl s) = some (p + j) ∧ rl k 0 (bl s) = rs (bl s)) := hsp
                rw [hsb, decide_eq_false (fun h => hst ⟨hlq, h⟩)] at HS
                clear hst hsb hyq hw1 hlq hbd hsp
                go_wp2_with (go_at_call 70; refine (HS).mono ?_; rintro e w' ⟨rfl, rfl⟩)
                refine bodyPost_ret (v := .tuple #[v, .int .i64 ((p : Int) + (j : Int)), .bool true]) (by simp [results, Tryd.f48, go_sem]) rfl ⟨v, ?_, ?_, HBL.out⟩
                · rw [HSP.out.1]; rfl
                · rw [← HSP.out.2, HAT.out.len]; exact hrow2
            · have hst : ¬ St ((bl s).drop p) j := fun h => by
                have := h.1
                rw [List.length_drop, bl_length] at this
                omega
              have hbd := bad_st HQ.out hj1 (by rw [HN.out]; exact hjn) HST.out hst
              have hsp := HAT.out.stop (by rw [bl_length]; exact hlt) hbd
              have HSP : Hid (chk (bl s) = some (p + j) ∧ rl k 0 (bl s) = rs (bl s)) := hsp
              have hpj : ¬ (p : Int) + (j : Int) < (s.size : Int) := by omega
              have hpj1 : (p : Int) + (j : Int) ≤ 1099511627780 := by omega
              clear hst hw1 hbd hsp
              go_wp2_with fail
              refine bodyPost_ret (v := .tuple #[v, .int .i64 ((p : Int) + (j : Int)), .bool true]) (by simp [results, Tryd.f48, go_sem]) rfl ⟨v, ?_, ?_, HBL.out⟩
              · rw [HSP.out.1]; rfl
              · rw [← HSP.out.2, HAT.out.len]; exact hrow2
          · obtain rfl : j = 4 := by omega
            have hb : bad ((bl s).drop p) = none := good_st HQ.out (by rw [HN.out]; omega) (fun i h1 h2 => HST.out i h1 (by rw [HN.out] at h2; exact h2))
            have HNX : Hid (AtP (bl s) (k + 1) (p + 4) ∧ flat (rl (k + 1) 0 (bl s)) = flat (rl k 0 (bl s)) ++ [.int .i64 p, .int .i64 (accR ((bl s).drop p) 4)]) := by
              have h := HAT.out.next hb
              have h2 := accR_rune (l := (bl s).drop p) (by rw [HN.out]; omega)
              rw [HN.out] at h h2
              rw [h2]
              exact h
            clear hb HA1
            generalize accR ((bl s).drop p) 4 = ac at *
            have happ : ∀ v' w1, w1.ownsRow w.heap.size 82 2 v' (k + 1) (flat (rl k 0 (bl s)) ++ [.int .i64 p, .int .i64 ac]) → (W2.alloc (.cells #[.int .i64 p, .int .i64 ac] 82)).grownBy w1 v.ownBlock → Below w.heap.size w w1 := fun v' w1 _ hg =>
              (HBL.out.alloc HBL.out.size _).grown hg (by simp; exact Nat.le_succ_of_le HBL.out.size) (fun j ej => (hrow2.lt j ej).1)
            go_wp2_with (at_builtin; refine wpList_append_own _ rfl _ _ 78 rfl w.heap.size 82 i0 (.agg #[.int .i64 0, .int .i64 0]) 2 16 Tryd.underlying78 hinf hz0 hz1 hz2 rfl (by decide) _ _ _ rfl (hrow2.alloc _) ⟨W2.heap.size, 0, none⟩ 1 1 [.int .i64 p, .int .i64 ac] rfl rfl (two_cells_new rfl) (by simp [Value.oneCell']) (by unfold maxLen; omega) (by omega) (by have := HBL.out.size; simp; omega) ?_; intro v' w1 hown hgrow _)
            have HB1 : Hid (Below w.heap.size w w1) := happ v' w1 hown hgrow
            have HOW : Hid (w1.ownsRow w.heap.size 82 2 v' (k + 1) (flat (rl k 0 (bl s)) ++ [.int .i64 p, .int .i64 ac])) := hown
            clear happ hown hgrow hrow2
            go_roundw
            case rel => exact ⟨k + 1, p + 4, v', rfl, by go_num, HNX.out.1, by rw [HNX.out.2]; exact HOW.out, HB1.out⟩
            case measure => simp [RowKit.intOf]; omega
    · have hpe : p = (bl s).length := by rw [bl_length]; omega
      have HSP : Hid (chk (bl s) = none ∧ rl k 0 (bl s) = rs (bl s)) := (hpe ▸ HAT.out : AtP (bl s) k (bl s).length).stop_end
      have hpi : ¬ (p : Int) < (s.size : Int) := by omega
      clear hpe
      go_wp2_with fail
      refine bodyPost_ret (v := .tuple #[v, .int .i64 0, .bool false]) (by simp [results, Tryd.f48, go_sem]) rfl ⟨v, ?_, ?_, HBL.out⟩
      · rw [HSP.out.1]; rfl
      · rw [← HSP.out.2, HAT.out.len]; exact hrow
end Go.Proofs.YthlbbinlkmchjaaDoor
