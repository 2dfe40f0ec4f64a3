/- RunesFirst's walk: what stands ahead of the byte that Check tells can be made right, with it nothing can. -/
import Derived.Test.YtncjadjfgbeokaaDoorShown
import Derived.Deep.CutRange
import Derived.Deep.RegionWith
namespace Go.Proofs.YtncjadjfgbeokaaDoor
open Go.RowKit

theorem bl_append (a b : ByteArray) : bl (a ++ b) = bl a ++ bl b := by simp [bl, ByteArray.data_append]
/-- the law's tails -/
def tl : Nat → ByteArray
  | 0 => ⟨#[]⟩
  | 1 => ⟨#[128]⟩
  | 2 => ⟨#[191]⟩
  | 3 => ⟨#[128, 128]⟩
  | 4 => ⟨#[160, 128]⟩
  | 5 => ⟨#[144, 128]⟩
  | 6 => ⟨#[128, 128, 128]⟩
  | _ => ⟨#[144, 128, 128]⟩
theorem tl_size (i : Nat) : (tl i).size ≤ 3 := by
  unfold tl
  split <;> decide
theorem tails_tl {t : List Nat} (h : t ∈ tails) : ∃ i, i < 8 ∧ t = bl (tl i) := by
  simp only [tails, List.mem_cons, List.mem_nil_iff, or_false] at h
  rcases h with rfl | rfl | rfl | rfl | rfl | rfl | rfl | rfl
  · exact ⟨0, by omega, rfl⟩
  · exact ⟨1, by omega, rfl⟩
  · exact ⟨2, by omega, rfl⟩
  · exact ⟨3, by omega, rfl⟩
  · exact ⟨4, by omega, rfl⟩
  · exact ⟨5, by omega, rfl⟩
  · exact ⟨6, by omega, rfl⟩
  · exact ⟨7, by omega, rfl⟩
def kindOf : Option Nat → Int
  | none => 0
  | some _ => 40
def atOf : Option Nat → Int
  | none => 0
  | some A => A
theorem told_eq (c : Option Nat) : told c = .agg #[.int .i64 (kindOf c), .int .i64 (atOf c)] := by cases c <;> rfl
theorem check_is (s : ByteArray) (c : Option Nat) (w : World) (hs : s.size ≤ 1152921504606846976) (hc : chk (bl s) = c) (hT : Tb w) :
    Calls Tryd.prog 16 #[.string s] w fun e w' => e = .returned (.agg #[.int .i64 (kindOf c), .int .i64 (atOf c)]) ∧ Below w.heap.size w w' := by
  have := check_any s w hs hT
  rwa [hc, told_eq] at this
/-- some tail below i makes it right -/
def al (l : List Nat) (A i : Nat) : Bool := decide (∃ j, j < i ∧ chk (l.take A ++ bl (tl j)) = none)
theorem al_zero (l : List Nat) (A : Nat) : al l A 0 = false := by simp [al]
theorem al_succ (l : List Nat) (A i : Nat) : al l A (i + 1) = (al l A i || decide (kindOf (chk (l.take A ++ bl (tl i))) = 0)) := by
  have hk : kindOf (chk (l.take A ++ bl (tl i))) = 0 ↔ chk (l.take A ++ bl (tl i)) = none := by
    cases chk (l.take A ++ bl (tl i)) <;> simp [kindOf]
  rw [Bool.eq_iff_iff]
  simp only [al, Bool.or_eq_true, decide_eq_true_eq, hk]
  constructor
  · rintro ⟨j, hj, h⟩
    rcases Nat.lt_or_ge j i with g | g
    · exact .inl ⟨j, g, h⟩
    · obtain rfl : j = i := by omega
      exact .inr h
  · rintro (⟨j, hj, h⟩ | h)
    · exact ⟨j, by omega, h⟩
    · exact ⟨i, by omega, h⟩
theorem al_eight {l : List Nat} {A : Nat} (h : chk l = some A) : al l A 8 = true := by
  obtain ⟨t, ht, hc⟩ := alive h
  obtain ⟨i, hi, rfl⟩ := tails_tl ht
  exact decide_eq_true ⟨i, hi, hc⟩
theorem dead_at {l m : List Nat} {A : Nat} (h : chk l = some A) (hA : A < l.length) : chk (l.take (A + 1) ++ m) = some A := by
  refine chk_pre h hA ?_
  rw [List.take_append_of_le_length (by simp; omega), List.take_take, Nat.min_self]
/-- what the loop leans on -/
structure Ends (W : World) (bf be : Nat) (A : Nat) : Prop where
  kind : W.cell? ⟨bf, 0, none⟩ = some (.int .i64 40)
  at_ : W.cell? ⟨bf, 1, none⟩ = some (.int .i64 A)
  tail : ∀ i, i < 8 → W.cell? ⟨be, i, none⟩ = some (.string (tl i))
  tb : Tb W
  bfl : bf < W.heap.size
  bel : be < W.heap.size
theorem Ends.of {W W' : World} {bf be A : Nat} (h : Ends W bf be A) (hb : Below W.heap.size W W') : Ends W' bf be A :=
  ⟨(World.cell?_of_block (hb.block _ h.bfl)).trans h.kind, (World.cell?_of_block (hb.block _ h.bfl)).trans h.at_, fun i hi => (World.cell?_of_block (hb.block _ h.bel)).trans (h.tail i hi), h.tb.of hb h.tb.size,
   Nat.lt_of_lt_of_le h.bfl hb.size, Nat.lt_of_lt_of_le h.bel hb.size⟩

theorem undrew {w w' : World} (h : Below w.drew.heap.size w.drew w') : Below w.heap.size w w' := (Below.refl _ w).drew.trans h
/-- a fault in a block of its own: laid behind the call, or ahead of it -/
theorem meet1 {wr w5 : World} {k a : Value} (hb : Below wr.heap.size wr w5) :
    ∃ ba, (Value.pointer (some ⟨w5.heap.size, 0, none⟩)) = .pointer (some ⟨ba, 0, none⟩) ∧ Blk (w5.alloc (.cells #[k, a] 36)) ba [k, a] 36 ∧ Below wr.heap.size wr (w5.alloc (.cells #[k, a] 36)) :=
  ⟨_, rfl, Blk.new _ _ _ rfl, hb.alloc hb.size _⟩
theorem meet2 {wr w5 : World} {k a x y : Value} (hb : Below (wr.alloc (.cells #[x, y] 36)).heap.size (wr.alloc (.cells #[x, y] 36)) w5) :
    ∃ ba, (Value.pointer (some ⟨wr.heap.size, 0, none⟩)) = .pointer (some ⟨ba, 0, none⟩) ∧ Blk ((w5.setCell ⟨wr.heap.size, 0, none⟩ k).setCell ⟨wr.heap.size, 1, none⟩ a) ba [k, a] 36 ∧ Below wr.heap.size wr ((w5.setCell ⟨wr.heap.size, 0, none⟩ k).setCell ⟨wr.heap.size, 1, none⟩ a) := by
  have h0 : Blk (wr.alloc (.cells #[x, y] 36)) wr.heap.size [x, y] 36 := Blk.new _ _ _ rfl
  have h1 : Blk w5 wr.heap.size [x, y] 36 := (hb.block _ h0.lt).trans h0
  refine ⟨_, rfl, (h1.set 0 k).set 1 a, ?_⟩
  exact ((((Below.refl _ wr).alloc (Nat.le_refl _) _).trans (hb.mono (by simp))).setCell (p := ⟨wr.heap.size, 0, none⟩) (Nat.le_refl _) _).setCell (p := ⟨wr.heap.size, 1, none⟩) (Nat.le_refl _) _
theorem bcell {W w1 : World} (hb : Below W.heap.size W w1) : (∀ b o, b < W.heap.size → w1.cell? ⟨b, o, none⟩ = W.cell? ⟨b, o, none⟩) ∧ (∀ b o, b < W.heap.size → w1.frozen? ⟨b, o, none⟩ = W.frozen? ⟨b, o, none⟩) :=
  ⟨fun b o h => hb.cell (p := ⟨b, o, none⟩) h, fun b o h => hb.frozen (p := ⟨b, o, none⟩) h⟩
theorem Tb.alloc {w : World} (h : Tb w) (o : Obj) : Tb (w.alloc o) := h.of ((Below.refl _ w).alloc (Nat.le_refl _) _) h.size
theorem Tb.drew {w : World} (h : Tb w) : Tb w.drew := ⟨h.first, h.range, h.size⟩
set_option maxRecDepth 100000 in
set_option maxHeartbeats 8000000 in
theorem first_walk (s more : ByteArray) (hs : s.size ≤ 140737488351232) (hm : more.size ≤ 140737488351232) (w : World) (hT : Tb w) :
    Calls Tryd.prog 6 #[.string s, .string more] w fun e w' => e = .returned (.bool true) ∧ Below w.heap.size w w' := by
  have HT : Hid (Tb w) := hT
  clear hT
  rcases hc : chk (bl s) with _ | A
  · -- a right text
    go_enter Tryd.func6, Tryd.ntmps6
    go_wp2_with fail
    refine (shown_any _ HT.out).mono ?_
    rintro e w1 ⟨rfl, hb1⟩
    have HB1 : Hid (Below w.heap.size w w1) := hb1
    clear hb1
    go_wp2_with fail
    refine (check_is s none w1 (by omega) hc (HT.out.of HB1.out HT.out.size)).mono ?_
    rintro e w2 ⟨rfl, hb2⟩
    have HB2 : Hid (Below w.heap.size w w2) := HB1.out.trans (hb2.mono HB1.out.size)
    clear hb2 HB1 hc
    simp only [kindOf, atOf]
    go_wp2_with fail
    go_ret
    exact ⟨rfl, HB2.out.alloc HB2.out.size _⟩
  · -- a byte that can't stand
    have hA := chk_le hc
    rw [bl_length] at hA
    go_enter Tryd.func6, Tryd.ntmps6
    go_wp2_with fail
    refine (shown_any _ HT.out).mono ?_
    rintro e w1 ⟨rfl, hb1⟩
    have HB1 : Hid (Below w.heap.size w w1) := hb1
    clear hb1
    go_wp2_with fail
    refine (check_is s (some A) w1 (by omega) hc (HT.out.of HB1.out HT.out.size)).mono ?_
    rintro e w2 ⟨rfl, hb2⟩
    have HB2 : Hid (Below w.heap.size w w2) := HB1.out.trans (hb2.mono HB1.out.size)
    clear hb2 HB1
    simp only [kindOf, atOf]
    have HC : Hid (chk (bl s) = some A) := hc
    clear hc
    have hz1 : (A : Int) ≤ (s.size : Int) := by omega
    have hz0 : (0 : Int) ≤ (A : Int) := by omega
    have hz2 : (s.size : Int) ≤ 140737488351232 := by omega
    have hd1 : decide ((A : Int) < 0) = false := decide_eq_false (by omega)
    have hd2 : decide (s.size < A) = false := decide_eq_false (by omega)
    go_wp2_with fail
    clear hd1 hd2
    obtain ⟨W0, hW0⟩ : ∃ W0, (w2.alloc (.cells #[.int .i64 40, .int .i64 A] 36)).alloc (.cells #[.string ⟨#[]⟩, .string ⟨#[128]⟩, .string ⟨#[191]⟩, .string ⟨#[128, 128]⟩, .string ⟨#[160, 128]⟩, .string ⟨#[144, 128]⟩, .string ⟨#[128, 128, 128]⟩, .string ⟨#[144, 128, 128]⟩] 9) = W0 := ⟨_, rfl⟩
    have hE0 : Ends W0 w2.heap.size (w2.heap.size + 1) A := by
      rw [← hW0]
      have k1 : Blk (w2.alloc (.cells #[.int .i64 40, .int .i64 A] 36)) w2.heap.size [.int .i64 40, .int .i64 A] 36 := Blk.new _ _ _ rfl
      have k2 := Blk.new (w2.alloc (.cells #[.int .i64 40, .int .i64 A] 36)) #[.string ⟨#[]⟩, .string ⟨#[128]⟩, .string ⟨#[191]⟩, .string ⟨#[128, 128]⟩, .string ⟨#[160, 128]⟩, .string ⟨#[144, 128]⟩, .string ⟨#[128, 128, 128]⟩, .string ⟨#[144, 128, 128]⟩] 9 (k := w2.heap.size + 1) (by simp)
      refine ⟨(k1.alloc _).cell 0, (k1.alloc _).cell 1, fun i hi => ?_, (((HT.out.of HB2.out HT.out.size).alloc _).alloc _), (k1.alloc _).lt, k2.lt⟩
      rw [k2.cell i]
      rcases (by omega : i = 0 ∨ i = 1 ∨ i = 2 ∨ i = 3 ∨ i = 4 ∨ i = 5 ∨ i = 6 ∨ i = 7) with rfl | rfl | rfl | rfl | rfl | rfl | rfl | rfl <;> rfl
    have HB3 : Hid (Below w.heap.size w W0) := by rw [← hW0]; exact (HB2.out.alloc HB2.out.size _).alloc (by simp; exact Nat.le_succ_of_le HB2.out.size) _
    have HE0 : Hid (Ends W0 w2.heap.size (w2.heap.size + 1) A) := hE0
    rw [hW0]
    clear hE0 hW0 HB2
    generalize w2.heap.size = bf at *
    go_loopw [8, 9, 10] (fun a d i wr => ∃ k : Nat, k ≤ 8 ∧ i = .int .i64 k ∧ a = .bool (al (bl s) A k) ∧ d = .bool true ∧ Below W0.heap.size W0 wr) (fun _ _ i _ => 8 - (RowKit.intOf i).toNat)
    case atStart => exact ⟨0, by omega, rfl, by rw [al_zero], rfl, Below.refl _ _⟩
    case round =>
      obtain ⟨k, hk, rfl, rfl, rfl, hbl⟩ := hrel
      have HBL : Hid (Below W0.heap.size W0 wr) := hbl
      clear hbl
      by_cases hlt : k < 8
      · have hE := HE0.out.of HBL.out
        have ca := hE.at_
        have ct := hE.tail k hlt
        have hT0 := hE.tb
        have hbfl := hE.bfl
        have hbel := hE.bel
        have HE : Hid (Ends wr bf (bf + 1) A) := hE
        clear hE
        have hts := tl_size k
        have hbt : Hid (bl (s.extract 0 A ++ tl k) = (bl s).take A ++ bl (tl k)) := by
          rw [bl_append, bl_extract, List.drop_zero]; rfl
        have HL : Hid (al (bl s) A (k + 1) = (al (bl s) A k || decide (kindOf (chk ((bl s).take A ++ bl (tl k))) = 0))) := al_succ _ _ _
        generalize tl k = t at *
        obtain ⟨c, hcE⟩ : ∃ c, chk ((bl s).take A ++ bl t) = c := ⟨_, rfl⟩
        rw [hcE] at HL
        have hsz : (s.extract 0 A ++ t).size ≤ 1152921504606846976 := by
          rw [ByteArray.size_append, ← bl_length (s.extract 0 A), bl_extract]; simp [bl_length]; omega
        have HC1 : Hid (chk (bl (s.extract 0 A ++ t)) = c) := by rw [hbt.out]; exact hcE
        clear hcE
        generalize al (bl s) A k = ak at *
        have hk8 : (k : Int) < 8 := by omega
        have hk0 : (0 : Int) ≤ (k : Int) := by omega
        have hts2 : (t.size : Int) ≤ 3 := by omega
        go_wp2_with fail
        go_cut [11] from 49 to 58 (fun p wx => ∃ ba, p = .pointer (some ⟨ba, 0, none⟩) ∧ Blk wx ba [.int .i64 (kindOf c), .int .i64 (atOf c)] 36 ∧ Below wr.heap.size wr wx)
        case first =>
          have hadd : ¬ 9223372036854775807 < A + t.size := by omega
          go_region_with (first | (go_at_call 16; refine (check_is (s.extract 0 A ++ t) c _ hsz HC1.out (by first | exact hT0 | exact hT0.drew | exact hT0.drew.alloc _ | exact hT0.alloc _ | exact (hT0.alloc _).drew)).mono ?_; rintro e w5 ⟨rfl, hb5⟩; have HB5 : Hid (Below _ _ w5) := hb5; obtain ⟨hc5, hf5⟩ := bcell hb5; clear hb5))
          all_goals (try go_wp2_with fail)
          all_goals
            go_meet
            first
            | exact meet1 HB5.out
            | exact meet1 (undrew HB5.out)
            | exact meet2 HB5.out
            | exact meet2 (undrew HB5.out)
            | exact meet1 (undrew (undrew HB5.out))
            | exact meet2 (undrew (undrew HB5.out))
        case rest =>
          obtain ⟨ba, rfl, hbk, hbw⟩ := hcut
          have HBW : Hid (Below W0.heap.size W0 wc) := HBL.out.trans (hbw.mono HBL.out.size)
          have hE2 := HE.out.of hbw
          have ca2 := hE2.at_
          have ca1 := hE2.kind
          have cb0 : wc.cell? ⟨ba, 0, none⟩ = some (.int .i64 (kindOf c)) := hbk.cell 0
          have hbfl2 := hE2.bfl
          have hbel2 := hE2.bel
          have ct2 : wc.cell? ⟨bf + 1, k, none⟩ = some (.string t) := (World.cell?_of_block (hbw.block _ hbel)).trans ct
          have hT2 := hE2.tb
          have HE2 : Hid (Ends wc bf (bf + 1) A) := hE2
          clear hE2 hbk hbw ct ca hT0 hsz hbfl hbel
          go_upto_region 16 with fail
          go_cut [8] from 59 to 64 (fun a wx => a = .bool (al (bl s) A (k + 1)) ∧ wx = wc)
          case first =>
            cases ak
            · go_wp2_with fail
              go_meet
              exact ⟨by rw [HL.out]; simp; rfl, rfl⟩
            · go_wp2_with fail
              go_meet
              exact ⟨by rw [HL.out]; simp, rfl⟩
          case rest =>
            obtain ⟨rfl, rfl⟩ := hcut
            clear HL cb0
            by_cases hAs : A < s.size
            · have hD : chk (bl (s.extract 0 (A + 1) ++ t)) = some A := by
                rw [bl_append, bl_extract, List.drop_zero]
                exact dead_at HC.out (by rw [bl_length]; exact hAs)
              have HD : Hid (chk (bl (s.extract 0 (A + 1) ++ t)) = some A) := hD
              clear hD
              have hsz : (s.extract 0 (A + 1) ++ t).size ≤ 1152921504606846976 := by
                rw [ByteArray.size_append, ← bl_length (s.extract 0 (A + 1)), bl_extract]; simp [bl_length]; omega
              have hAi : (A : Int) < (s.size : Int) := by omega
              have hA1 : (A : Int) + 1 ≤ (s.size : Int) := by omega
              obtain ⟨ak1, hak⟩ : ∃ x, al (bl s) A (k + 1) = x := ⟨_, rfl⟩
              rw [hak]
              have HAK : Hid (al (bl s) A (k + 1) = ak1) := hak
              clear hak
              go_wp2_with fail
              go_cut [12] from 70 to 80 (fun p wx => ∃ bb, p = .pointer (some ⟨bb, 0, none⟩) ∧ Blk wx bb [.int .i64 40, .int .i64 A] 36 ∧ Below wc.heap.size wc wx)
              case first =>
                have hwr : IntKind.i64.wrap ((A : Int) + 1) = (A : Int) + 1 := by rw [IntKind.wrap_i64]; omega
                have hadd : ¬ 9223372036854775807 < A + 1 + t.size := by omega
                have hA3 : (0 : Int) ≤ (A : Int) + 1 := by omega
                go_region_with (first | (go_at_call 16; refine (check_is (s.extract 0 (A + 1) ++ t) (some A) _ hsz HD.out (by first | exact hT2 | exact hT2.drew | exact hT2.drew.alloc _ | exact hT2.alloc _ | exact (hT2.alloc _).drew)).mono ?_; rintro e w5 ⟨rfl, hb5⟩; have HB5 : Hid (Below _ _ w5) := hb5; obtain ⟨hc5, hf5⟩ := bcell hb5; clear hb5; simp only [kindOf, atOf]))
                all_goals (try go_wp2_with fail)
                all_goals
                  go_meet
                  first
                  | exact meet1 HB5.out
                  | exact meet1 (undrew HB5.out)
                  | exact meet2 HB5.out
                  | exact meet2 (undrew HB5.out)
                  | exact meet1 (undrew (undrew HB5.out))
                  | exact meet2 (undrew (undrew HB5.out))
              case rest =>
                obtain ⟨bb, rfl, hbk, hbw⟩ := hcut
                have HBX : Hid (Below W0.heap.size W0 wc) := HBW.out.trans (hbw.mono HBW.out.size)
                have hE3 := HE2.out.of hbw
                have ca4 := hE3.at_
                have ca3 := hE3.kind
                have cb3 : wc.cell? ⟨bb, 0, none⟩ = some (.int .i64 40) := hbk.cell 0
                have cb4 : wc.cell? ⟨bb, 1, none⟩ = some (.int .i64 A) := hbk.cell 1
                clear hE3 hbw hbk ca1 ca2 ct2 hT2 hbfl2 hbel2 hsz
                go_upto_region 19 with fail
                go_wp2_with fail
                go_roundw
                case rel => exact ⟨k + 1, by omega, by go_num, by rw [HAK.out], rfl, HBX.out⟩
                case measure => simp [RowKit.intOf]; omega
            · have hAi : ¬ (A : Int) < (s.size : Int) := by omega
              go_wp2_with fail
              go_roundw
              case rel => exact ⟨k + 1, by omega, by go_num, rfl, rfl, HBW.out⟩
              case measure => simp [RowKit.intOf]; omega
      · obtain rfl : k = 8 := by omega
        rw [al_eight HC.out]
        have hE := HE0.out.of HBL.out
        have ca := hE.at_
        have ck := hE.kind
        have hT0 := hE.tb
        have hbfl := hE.bfl
        have HE : Hid (Ends wr bf (bf + 1) A) := hE
        have HBW : Hid (Below w.heap.size w wr) := HB3.out.trans (HBL.out.mono HB3.out.size)
        clear hE
        by_cases hAs : A < s.size
        · have hD : chk (bl (s.extract 0 (A + 1) ++ more)) = some A := by
            rw [bl_append, bl_extract, List.drop_zero]
            exact dead_at HC.out (by rw [bl_length]; exact hAs)
          have HD : Hid (chk (bl (s.extract 0 (A + 1) ++ more)) = some A) := hD
          clear hD
          have hsz : (s.extract 0 (A + 1) ++ more).size ≤ 1152921504606846976 := by
            rw [ByteArray.size_append, ← bl_length (s.extract 0 (A + 1)), bl_extract]; simp [bl_length]; omega
          have hAi : (A : Int) < (s.size : Int) := by omega
          have hA1 : (A : Int) + 1 ≤ (s.size : Int) := by omega
          have hdA : decide ((A : Int) < (s.size : Int)) = true := decide_eq_true hAi
          have hA3 : (0 : Int) ≤ (A : Int) + 1 := by omega
          have hA4 : ¬ (s.size < A + 1) := by omega
          have hA5 : A + 1 ≤ s.size := by omega
          have hS0 : wr.drew.cell? ⟨bf, 1, none⟩ = some (.int .i64 A) ∧ wr.drew.cell? ⟨bf, 0, none⟩ = some (.int .i64 40) ∧ Below wr.heap.size wr wr.drew := ⟨ca, ck, (Below.refl _ wr).drew⟩
          have hKeep : ∀ w5, Below wr.heap.size wr w5 → w5.cell? ⟨bf, 1, none⟩ = some (.int .i64 A) ∧ w5.cell? ⟨bf, 0, none⟩ = some (.int .i64 40) ∧ Below wr.heap.size wr w5 := fun w5 hb => ⟨(HE.out.of hb).at_, (HE.out.of hb).kind, hb⟩
          have HKeep : Hid (∀ w5, Below wr.heap.size wr w5 → w5.cell? ⟨bf, 1, none⟩ = some (.int .i64 A) ∧ w5.cell? ⟨bf, 0, none⟩ = some (.int .i64 40) ∧ Below wr.heap.size wr w5) := hKeep
          clear hKeep
          go_upto_region 20 with fail
          have hwr : IntKind.i64.wrap ((A : Int) + 1) = (A : Int) + 1 := by rw [IntKind.wrap_i64]; omega
          have hadd : ¬ 9223372036854775807 < A + 1 + more.size := by omega
          go_region_held3 (fun w' => w'.cell? ⟨bf, 1, none⟩ = some (.int .i64 A) ∧ w'.cell? ⟨bf, 0, none⟩ = some (.int .i64 40) ∧ Below wr.heap.size wr w')
            (first | exact hS5 | exact hS0)
            (first | (go_at_call 16; refine (check_is (s.extract 0 (A + 1) ++ more) (some A) _ hsz HD.out (by first | exact hT0.drew | exact hT0.drew.drew | exact hT0)).mono ?_; rintro e w5 ⟨rfl, hb5⟩; have hS5 := HKeep.out w5 (by first | exact undrew hb5 | exact hb5 | exact undrew (undrew hb5)); clear hb5; simp only [kindOf, atOf]))
          have HBY : Hid (Below w.heap.size w w5) := HBW.out.trans (hS5.2.2.mono HBW.out.size)
          have ca5 := hS5.1
          clear hS0 hS5 ca ck hbfl
          go_wp2_with fail
          go_ret
          exact ⟨rfl, HBY.out⟩
        · have hAi : ¬ (A : Int) < (s.size : Int) := by omega
          have hdA : decide ((A : Int) < (s.size : Int)) = false := decide_eq_false hAi
          have hA0 : (0 : Int) < (A : Int) := by
            rcases Nat.eq_zero_or_pos A with h | h
            · exfalso
              have hn : bl s = [] := List.eq_nil_of_length_eq_zero (by rw [bl_length]; omega)
              have hx := HC.out
              rw [hn] at hx
              cases hx
            · omega
          go_wp2_with fail
          go_quiet (fail)
          go_wp2_with fail
          go_ret
          exact ⟨ret_bool (decide_eq_true (by omega)), below_drewN HBW.out _⟩
end Go.Proofs.YtncjadjfgbeokaaDoor
