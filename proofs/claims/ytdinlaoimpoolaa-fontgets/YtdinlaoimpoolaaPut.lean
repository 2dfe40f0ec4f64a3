/- Put: the font's bytes. -/
import Derived.Test.YtdinlaoimpoolaaLayAll
import Derived.Deep.OwnRows
import Derived.Laws.MakeOwn
import Derived.Laws.IdiomStrings
namespace Go.Proofs.Ytdinlaoimpoolaa
open Go.RowKit

theorem Wr.only {W W' : World} {a b room : Nat} {bs : List Nat} {L : List Nat} (h : Wr W a b room bs) (k : Only L W W') (ha : a ∉ L) (hb : b ∉ L) : Wr W' a b room bs := by
  obtain ⟨rest, h2, h3⟩ := h.row
  exact ⟨k.blk h.blk ha, rest, k.blk h2 hb, h3⟩
set_option maxRecDepth 100000 in
set_option maxHeartbeats 4000000 in
theorem layPair_any (q : Pr) (a b room : Nat) (bs : List Nat) (w : World) (h0 : 0 ≤ q.1 ∧ q.1 < 4294967296) (h1 : 0 ≤ q.2.1 ∧ q.2.1 < 4294967296) (h3 : 0 ≤ q.2.2.2.1 ∧ q.2.2.2.1 < 4294967296) (h4 : -32768 ≤ q.2.2.2.2 ∧ q.2.2.2.2 < 65536) (hW : Wr w a b room bs) (hroom : bs.length + 10 ≤ room) (hr : room ≤ 1000000) :
    Calls Try.prog 52 #[.pointer (some ⟨a, 0, none⟩), .agg (cp q).toArray] w fun e w' => e = .returned (.tuple #[]) ∧ Wr w' a b room (bs ++ pb q) ∧ Only [a, b] w w' := by
  obtain ⟨x0, x1, x2, x3, x4⟩ := q
  simp only at h0 h1 h3 h4
  obtain ⟨n0, rfl⟩ : ∃ n : Nat, x0 = (n : Int) := ⟨x0.toNat, by omega⟩
  obtain ⟨n1, rfl⟩ : ∃ n : Nat, x1 = (n : Int) := ⟨x1.toNat, by omega⟩
  obtain ⟨n3, rfl⟩ : ∃ n : Nat, x3 = (n : Int) := ⟨x3.toNat, by omega⟩
  obtain ⟨n4, hn4⟩ : ∃ n : Nat, x4 + 32768 = (n : Int) := ⟨(x4 + 32768).toNat, by omega⟩
  have HE : Hid (pb ((n0 : Int), (n1 : Int), x2, (n3 : Int), x4) = be 3 n0 ++ (be 3 n1 ++ (if x2 = true then be 1 1 ++ be 3 n3 else be 1 2 ++ be 2 n4))) := hid (by
    simp only [pb, Int.toNat_natCast]
    rw [hn4, Int.toNat_natCast])
  have HW0 := hid hW
  have HA : Hid (a < w.heap.size ∧ b < w.heap.size) := hid ⟨hW.blk.lt, by obtain ⟨_, h, _⟩ := hW.row; exact h.lt⟩
  have HL := hid (fun p n bs' X (h : Wr X a b room bs') (hp : p ≤ 15) (hn : n < 4294967296) (hl : bs'.length + sz p ≤ room) => lay_any p n a b room bs' X hp hn h hl hr)
  have HN : Hid (n0 < 4294967296 ∧ n1 < 4294967296 ∧ n3 < 4294967296 ∧ n4 < 4294967296 ∧ bs.length + 10 ≤ room) := hid (by omega)
  have HB := hid (Blk.new w #[.int .i64 n0, .int .i64 n1, .bool x2, .int .i64 n3, .int .i64 x4] 35 rfl)
  have hk4 : x4 ≤ 65535 := by omega
  have hk5 : -32768 ≤ x4 := by omega
  rw [HE.out]
  clear HE hW hroom hr h0 h1 h3 h4
  simp only [cp]
  go_enter Try.func52, Try.ntmps52
  go_wp2_with fail
  have HO1 : Hid (Only [a, b] w (w.alloc (.cells #[.int .i64 n0, .int .i64 n1, .bool x2, .int .i64 n3, .int .i64 x4] 35))) := hid ((Only.refl _ w).alloc _)
  have HW1 := hid (HW0.out.only ((Only.refl [] w).alloc (.cells #[.int .i64 n0, .int .i64 n1, .bool x2, .int .i64 n3, .int .i64 x4] 35)) (by simp) (by simp))
  obtain ⟨W1, hW1⟩ : ∃ W1, w.alloc (.cells #[.int .i64 n0, .int .i64 n1, .bool x2, .int .i64 n3, .int .i64 x4] 35) = W1 := ⟨_, rfl⟩
  obtain ⟨h, hh⟩ : ∃ h, w.heap.size = h := ⟨_, rfl⟩
  rw [hW1] at HO1 HW1 HB ⊢
  rw [hh] at HB HA ⊢
  clear hW1 hh HW0
  have HNL : Hid (h ∉ [a, b]) := hid (by have := HA.out; simp; omega)
  refine (HL.out 10 n0 bs W1 HW1.out (by decide) HN.out.1 (by have := HN.out; simp only [sz]; omega)).mono ?_
  rintro e W2 ⟨rfl, hw2, ho2⟩
  have HW2 := hid hw2
  have HO2 := hid (HO1.out.trans ho2)
  have HB2 := hid (ho2.blk HB.out HNL.out)
  clear hw2 ho2 HW1 HO1 HB
  have c1 : W2.cell? ⟨h, 1, none⟩ = some (.int .i64 n1) := HB2.out.cell 1
  go_wp2_with fail
  refine (HL.out 11 n1 _ W2 HW2.out (by decide) HN.out.2.1 (by have := HN.out; rw [List.length_append, be_len]; simp only [sz]; omega)).mono ?_
  rintro e W3 ⟨rfl, hw3, ho3⟩
  have HW3 := hid hw3
  have HO3 := hid (HO2.out.trans ho3)
  have HB3 := hid (ho3.blk HB2.out HNL.out)
  clear hw3 ho3 c1 HW2 HO2 HB2
  have c2 : W3.cell? ⟨h, 2, none⟩ = some (.bool x2) := HB3.out.cell 2
  cases x2 with
  | true =>
    go_wp2_with fail
    refine (HL.out 12 1 _ W3 HW3.out (by decide) (by decide) (by have := HN.out; rw [List.length_append, List.length_append, be_len, be_len]; simp only [sz]; omega)).mono ?_
    rintro e W4 ⟨rfl, hw4, ho4⟩
    have HW4 := hid hw4
    have HO4 := hid (HO3.out.trans ho4)
    have HB4 := hid (ho4.blk HB3.out HNL.out)
    clear hw4 ho4 c2 HW3 HO3 HB3
    have c3 : W4.cell? ⟨h, 3, none⟩ = some (.int .i64 n3) := HB4.out.cell 3
    go_wp2_with fail
    refine (HL.out 13 n3 _ W4 HW4.out (by decide) HN.out.2.2.1 (by have := HN.out; rw [List.length_append, List.length_append, List.length_append, be_len, be_len, be_len]; simp only [sz]; omega)).mono ?_
    rintro e W5 ⟨rfl, hw5, ho5⟩
    go_wp2_with fail
    refine bodyPost_ret (results_none (fn := Try.f52) rfl _ _ _) rfl ⟨rfl, ?_, HO4.out.trans ho5⟩
    rw [← List.append_assoc, ← List.append_assoc, ← List.append_assoc]
    exact hw5
  | false =>
    go_wp2_with fail
    refine (HL.out 12 2 _ W3 HW3.out (by decide) (by decide) (by have := HN.out; rw [List.length_append, List.length_append, be_len, be_len]; simp only [sz]; omega)).mono ?_
    rintro e W4 ⟨rfl, hw4, ho4⟩
    have HW4 := hid hw4
    have HO4 := hid (HO3.out.trans ho4)
    have HB4 := hid (ho4.blk HB3.out HNL.out)
    clear hw4 ho4 c2 HW3 HO3 HB3
    have c4 : W4.cell? ⟨h, 4, none⟩ = some (.int .i64 x4) := HB4.out.cell 4
    go_wp2_with fail
    refine (HL.out 14 n4 _ W4 HW4.out (by decide) HN.out.2.2.2.1 (by have := HN.out; rw [List.length_append, List.length_append, List.length_append, be_len, be_len, be_len]; simp only [sz]; omega)).mono ?_
    rintro e W5 ⟨rfl, hw5, ho5⟩
    go_wp2_with fail
    go_end0
    refine ⟨rfl, ?_, HO4.out.trans ho5⟩
    rw [← List.append_assoc, ← List.append_assoc, ← List.append_assoc]
    exact hw5
/-- what a font must be, that its bytes be laid -/
structure Fine (em : Int) (gs : List Gl) (ps : List Pr) : Prop where
  em : 0 ≤ em ∧ em < 4294967296
  gl : gs.length ≤ 1024
  pl : ps.length ≤ 4096
  g : ∀ g ∈ gs, (0 ≤ g.1 ∧ g.1 < 4294967296) ∧ (0 ≤ g.2.1 ∧ g.2.1 < 4294967296) ∧ (0 ≤ g.2.2.1 ∧ g.2.2.1 < 4294967296) ∧ (0 ≤ g.2.2.2 ∧ g.2.2.2 < 4294967296)
  p : ∀ q ∈ ps, (0 ≤ q.1 ∧ q.1 < 4294967296) ∧ (0 ≤ q.2.1 ∧ q.2.1 < 4294967296) ∧ (0 ≤ q.2.2.2.1 ∧ q.2.2.2.1 < 4294967296) ∧ (-32768 ≤ q.2.2.2.2 ∧ q.2.2.2.2 < 65536)
theorem gb_len (g : Gl) : (gb g).length = 9 := by simp [gb, be_len]
theorem pb_len (q : Pr) : (pb q).length ≤ 10 := by
  unfold pb
  rw [List.length_append, List.length_append, be_len, be_len]
  split <;> simp [be_len]
theorem gbs_len (gs : List Gl) : (gs.flatMap gb).length = 9 * gs.length := by
  induction gs with
  | nil => rfl
  | cons g gs ih => rw [List.flatMap_cons, List.length_append, gb_len, ih, List.length_cons]; omega
theorem pbs_len (ps : List Pr) : (ps.flatMap pb).length ≤ 10 * ps.length := by
  induction ps with
  | nil => simp
  | cons g gs ih =>
    have := pb_len g
    rw [List.flatMap_cons, List.length_append, List.length_cons]; omega

set_option maxRecDepth 100000 in
set_option maxHeartbeats 4000000 in
theorem newWriter_any (em : Int) (gs : List Gl) (ps : List Pr) (ag ap : Option Addr) (ca cb : Nat) (w : World) (hg : gs.length ≤ 1024) (hp : ps.length ≤ 4096) :
    Calls Try.prog 23 #[.agg #[.int .i64 em, .slice ag gs.length ca, .slice ap ps.length cb]] w fun e w' => ∃ a b, e = .returned (.pointer (some ⟨a, 0, none⟩)) ∧ Wr w' a b (13 + 9 * gs.length + 10 * ps.length) [] ∧ w.heap.size ≤ a ∧ w.heap.size ≤ b ∧ Below w.heap.size w w' := by
  obtain ⟨n, hn⟩ : ∃ n, gs.length = n := ⟨_, rfl⟩
  obtain ⟨m, hm⟩ : ∃ m, ps.length = m := ⟨_, rfl⟩
  rw [hn] at hg ⊢
  rw [hm] at hp ⊢
  have l1 : (n : Int) ≤ 1024 := by omega
  have l2 : (m : Int) ≤ 4096 := by omega
  obtain ⟨room, hrm⟩ : ∃ room, 13 + 9 * n + 10 * m = room := ⟨_, rfl⟩
  obtain ⟨CS, hCS⟩ : ∃ CS, madeCells #[.int .u8 0] room = CS := ⟨_, rfl⟩
  have hmk : ∀ X, (Instr.makeSlice 56 (.int .i64 (13 + 9 * (n : Int) + 10 * (m : Int))) (.int .i64 (13 + 9 * (n : Int) + 10 * (m : Int)))).run Try.prog X = .ok (.slice (some ⟨X.heap.size, 0, none⟩) room room) (X.alloc (.cells CS 5)) := fun X => by
    rw [show (13 + 9 * (n : Int) + 10 * (m : Int)) = (room : Int) by omega, ← hCS]
    exact run_make_row' 56 5 (.int .u8 0) 1 Try.underlying56 (by kernel_rfl) rfl .i64 .i64 room (by omega) (by omega) X
  have HSZ : Hid (CS.size = room) := hid (by rw [← hCS]; exact size_madeCells _ _)
  rw [hrm]
  have HRM := hid hrm
  clear hn hm hg hp hCS hrm
  go_enter Try.func23, Try.ntmps23
  go_wp2_with fail
  go_ret
  refine ⟨_, w.heap.size + 1, rfl, ⟨?_, CS.toList, ?_, ?_⟩, ?_, ?_, ?_⟩
  · exact Blk.new _ _ 100 (by simp)
  · refine Blk.alloc ?_ _
    exact Blk.new _ CS 5 (by simp)
  · simp [HSZ.out]
  · first | omega | (simp; omega) | simp
  · omega
  · exact (((Below.refl _ w).alloc (Nat.le_refl _) _).alloc (by simp) _).alloc (by simp; omega) _
/-- a string of these bytes -/
def strN (bs : List Nat) : ByteArray := ⟨(bs.map UInt8.ofNat).toArray⟩
theorem bl_strN (bs : List Nat) (h : ∀ b ∈ bs, b < 256) : bl (strN bs) = bs := by
  unfold bl strN
  simp only [List.map_map]
  conv => rhs; rw [← List.map_id bs]
  apply List.map_congr_left
  intro b hb
  have := h b hb
  simp [UInt8.toNat_ofNat']
  omega
set_option maxRecDepth 100000 in
set_option maxHeartbeats 4000000 in
theorem text_any (a b room : Nat) (bs : List Nat) (w : World) (hW : Wr w a b room bs) (h256 : ∀ x ∈ bs, x < 256) (hr : room ≤ 1000000) :
    Calls Try.prog 25 #[.pointer (some ⟨a, 0, none⟩)] w fun e w' => e = .returned (.string (strN bs)) ∧ Below w.heap.size w w' := by
  obtain ⟨rest, hrow, hlen⟩ := hW.row
  have c0 : w.cell? ⟨a, 0, none⟩ = some (.slice (some ⟨b, 0, none⟩) room room) := hW.blk.cell 0
  have c1 : w.cell? ⟨a, 1, none⟩ = some (.int .i64 bs.length) := hW.blk.cell 1
  have hcv : ∀ X : World, Blk X b (u8s bs ++ rest) 5 → (convert 56 9 (.slice (some ⟨b, 0, none⟩) bs.length room)).run Try.prog X = .ok (.string (strN bs)) X := fun X hX => by
    have := run_convert_bytes_back (P := Try.prog) X 56 9 5 ⟨b, 0, none⟩ room (bs.map UInt8.ofNat) Try.underlying56 Try.underlying5 Try.underlying9 (fun j hj => by
      rw [Addr.add_lit, Nat.zero_add]
      refine (hX.cell j).trans ?_
      have hj' : j < bs.length := by simpa using hj
      rw [List.getElem?_append_left (by rw [u8s_len]; exact hj')]
      unfold u8s
      rw [List.getElem?_map, List.getElem?_eq_getElem hj']
      have := h256 _ (List.getElem_mem hj')
      simp [UInt8.toNat_ofNat']
      omega)
    rw [List.length_map] at this
    exact this
  have h1 := hcv w hrow
  have h2 := hcv w.drew hrow
  have l0 : (bs.length : Int) ≤ (room : Int) := by omega
  have l1 : (room : Int) ≤ 1000000 := by omega
  clear hcv hrow hlen hW h256 hr
  go_enter Try.func25, Try.ntmps25
  go_wp2_with fail
  go_region
  go_wp2_with fail
  go_ret
  exact ⟨rfl, (Below.refl _ _).drew⟩

set_option maxRecDepth 100000 in
set_option maxHeartbeats 8000000 in
theorem layFont_any (em : Int) (gs : List Gl) (ps : List Pr) (ag ap : Option Addr) (ca cb a b room : Nat) (w : World) (hF : Fine em gs ps) (hW : Wr w a b room []) (hroom : 13 + 9 * gs.length + 10 * ps.length ≤ room) (hr : room ≤ 1000000) (sg : Sl w ag gs.length (gs.flatMap cg)) (sp : Sl w ap ps.length (ps.flatMap cp))
    (hag : ∀ c o, ag = some ⟨c, o, none⟩ → gs.length ≠ 0 → c ≠ a ∧ c ≠ b) (hap : ∀ c o, ap = some ⟨c, o, none⟩ → ps.length ≠ 0 → c ≠ a ∧ c ≠ b) :
    Calls Try.prog 24 #[.pointer (some ⟨a, 0, none⟩), .agg #[.int .i64 em, .slice ag gs.length ca, .slice ap ps.length cb]] w fun e w' => e = .returned (.tuple #[]) ∧ Wr w' a b room (fontB em gs ps) ∧ Only [a, b] w w' := by
  obtain ⟨h, hh⟩ : ∃ h, w.heap.size = h := ⟨_, rfl⟩
  have HAB : Hid (a < h ∧ b < h) := hid ⟨by rw [← hh]; exact hW.blk.lt, by obtain ⟨_, hb, _⟩ := hW.row; rw [← hh]; exact hb.lt⟩
  have HNL : Hid (h ∉ [a, b]) := hid (by have := HAB.out; simp; omega)
  have HL := hid (fun p n bs' X (h : Wr X a b room bs') (hp : p ≤ 15) (hn : n < 4294967296) (hl : bs'.length + sz p ≤ room) => lay_any p n a b room bs' X hp hn h hl hr)
  have HLP := hid (fun q bs' X (hq : q ∈ ps) (h : Wr X a b room bs') (hl : bs'.length + 10 ≤ room) => layPair_any q a b room bs' X (hF.p q hq).1 (hF.p q hq).2.1 (hF.p q hq).2.2.1 (hF.p q hq).2.2.2 h hl hr)
  have HW1 : Hid (Wr (w.alloc (.cells #[.int .i64 em, .slice ag gs.length ca, .slice ap ps.length cb] 25)) a b room []) := hid (hW.only ((Only.refl [] w).alloc _) (by simp) (by simp))
  have HB1 : Hid (Blk (w.alloc (.cells #[.int .i64 em, .slice ag gs.length ca, .slice ap ps.length cb] 25)) h [.int .i64 em, .slice ag gs.length ca, .slice ap ps.length cb] 25) := hid (Blk.new w _ 25 hh)
  have HO1 : Hid (Only [a, b] w (w.alloc (.cells #[.int .i64 em, .slice ag gs.length ca, .slice ap ps.length cb] 25))) := hid ((Only.refl _ w).alloc _)
  have HSG : Hid (∀ X, Only [a, b] w X → Sl X ag gs.length (gs.flatMap cg)) := hid fun X k h0 => (sg.keep (L := if gs.length = 0 then [] else [a, b]) (W' := X) (by rw [if_neg h0]; exact k) (fun c o e => by rw [if_neg h0]; have := hag c o e h0; simp; omega)) h0
  have HSP : Hid (∀ X, Only [a, b] w X → Sl X ap ps.length (ps.flatMap cp)) := hid fun X k h0 => (sp.keep (L := if ps.length = 0 then [] else [a, b]) (W' := X) (by rw [if_neg h0]; exact k) (fun c o e => by rw [if_neg h0]; have := hap c o e h0; simp; omega)) h0
  have HRM := hid hroom
  have HH := hid hh
  have HF := hid hF
  have l1 : (gs.length : Int) ≤ 1024 := by have := hF.gl; omega
  have l2 : (ps.length : Int) ≤ 4096 := by have := hF.pl; omega
  obtain ⟨en, hen⟩ : ∃ en : Nat, em = (en : Int) := ⟨em.toNat, by have := hF.em; omega⟩
  have HEN := hid hen
  clear hF hW hroom hr sg sp hag hap hen
  go_enter Try.func24, Try.ntmps24
  go_wp2_with fail
  obtain ⟨W1, hW1⟩ : ∃ W1, w.alloc (.cells #[.int .i64 em, .slice ag gs.length ca, .slice ap ps.length cb] 25) = W1 := ⟨_, rfl⟩
  rw [hW1] at HW1 HB1 HO1 ⊢
  clear hW1 hh
  go_loopw [4] (fun vi wr => ∃ p : Nat, vi = .int .i64 p ∧ p ≤ 3 ∧ Wr wr a b room (PF.take p) ∧ Blk wr h [.int .i64 em, .slice ag gs.length ca, .slice ap ps.length cb] 25 ∧ Only [a, b] w wr) (fun vi _ => 3 - (RowKit.intOf vi).toNat)
  case atStart => exact ⟨0, rfl, by omega, HW1.out, HB1.out, HO1.out⟩
  case round =>
    obtain ⟨p, rfl, hp, hwr, hbk, hon⟩ := hrel
    have HWR := hid hwr
    have HBK := hid hbk
    have HON := hid hon
    clear hwr hbk hon HW1 HB1 HO1
    have hways : p = 0 ∨ p = 1 ∨ p = 2 ∨ p = 3 := by omega
    rcases hways with rfl | rfl | rfl | rfl
    · have hb : ((⟨#[80, 70, 49]⟩ : ByteArray)[0]'(by decide)).toNat = 80 := by rfl
      go_wp2_with fail
      refine (HL.out 0 80 _ wr HWR.out (by decide) (by decide) (by have := HRM.out; simp only [sz, PF, List.length_take, List.length_cons, List.length_nil]; omega)).mono ?_
      rintro e w2 ⟨rfl, hw2, ho2⟩
      go_wp2_with fail
      exact ⟨⟨1, by go_num, by omega, hw2, ho2.blk HBK.out HNL.out, HON.out.trans ho2⟩, by simp [RowKit.intOf]⟩
    · have hb : ((⟨#[80, 70, 49]⟩ : ByteArray)[1]'(by decide)).toNat = 70 := by rfl
      go_wp2_with fail
      refine (HL.out 1 70 _ wr HWR.out (by decide) (by decide) (by have := HRM.out; simp only [sz, PF, List.length_take, List.length_cons, List.length_nil]; omega)).mono ?_
      rintro e w2 ⟨rfl, hw2, ho2⟩
      go_wp2_with fail
      exact ⟨⟨2, by go_num, by omega, hw2, ho2.blk HBK.out HNL.out, HON.out.trans ho2⟩, by simp [RowKit.intOf]⟩
    · have hb : ((⟨#[80, 70, 49]⟩ : ByteArray)[2]'(by decide)).toNat = 49 := by rfl
      go_wp2_with fail
      refine (HL.out 2 49 _ wr HWR.out (by decide) (by decide) (by have := HRM.out; simp only [sz, PF, List.length_take, List.length_cons, List.length_nil]; omega)).mono ?_
      rintro e w2 ⟨rfl, hw2, ho2⟩
      go_wp2_with fail
      exact ⟨⟨3, by go_num, by omega, hw2, ho2.blk HBK.out HNL.out, HON.out.trans ho2⟩, by simp [RowKit.intOf]⟩
    · have c0 : wr.cell? ⟨h, 0, none⟩ = some (.int .i64 em) := HBK.out.cell 0
      rw [HEN.out] at c0
      go_wp2_with fail
      have hlt3 : PF.take 3 = PF := rfl
      rw [hlt3] at HWR
      refine (HL.out 3 en _ wr HWR.out (by decide) (by have := HF.out.em; have := HEN.out; omega) (by have := HRM.out; simp only [sz, PF, List.length_cons, List.length_nil]; omega)).mono ?_
      rintro e W2 ⟨rfl, hw2, ho2⟩
      have HW2 := hid hw2
      have HB2 := hid (ho2.blk HBK.out HNL.out)
      have HO2 := hid (HON.out.trans ho2)
      clear hw2 ho2 c0 HWR HBK HON
      have c1 : W2.cell? ⟨h, 1, none⟩ = some (.slice ag gs.length ca) := HB2.out.cell 1
      go_wp2_with fail
      refine (HL.out 4 gs.length _ W2 HW2.out (by decide) (by have := HF.out.gl; omega) (by have := HRM.out; simp only [sz, PF, List.length_append, be_len, List.length_cons, List.length_nil]; omega)).mono ?_
      rintro e W3 ⟨rfl, hw3, ho3⟩
      have HW3 := hid hw3
      have HB3 := hid (ho3.blk HB2.out HNL.out)
      have HO3 := hid (HO2.out.trans ho3)
      clear hw3 ho3 c1 HW2 HB2 HO2
      have c1 : W3.cell? ⟨h, 1, none⟩ = some (.slice ag gs.length ca) := HB3.out.cell 1
      obtain ⟨B0, hB0⟩ : ∃ B0, PF ++ be (sz 3) en ++ be (sz 4) gs.length = B0 := ⟨_, rfl⟩
      have HB0 : Hid (B0 = PF ++ (be 2 en ++ be 2 gs.length)) := hid (by rw [← hB0, List.append_assoc]; rfl)
      have HBL : Hid (B0.length = 7) := hid (by rw [HB0.out]; simp only [PF, List.length_append, be_len, List.length_cons, List.length_nil])
      rw [hB0] at HW3
      clear hB0
      go_wp2_with fail
      clear c1
      go_loopw [31] (fun vi w2 => ∃ k : Nat, vi = .int .i64 k ∧ k ≤ gs.length ∧ Wr w2 a b room (B0 ++ (gs.take k).flatMap gb) ∧ Blk w2 h [.int .i64 em, .slice ag gs.length ca, .slice ap ps.length cb] 25 ∧ Only [a, b] w w2) (fun vi _ => gs.length - (RowKit.intOf vi).toNat)
      case atStart => exact ⟨0, rfl, by omega, by simpa using HW3.out, HB3.out, HO3.out⟩
      case round =>
        obtain ⟨k, rfl, hk, hwr, hbk, hon⟩ := hrel
        have HWR := hid hwr
        have HBK := hid hbk
        have HON := hid hon
        clear hwr hbk hon HW3 HB3 HO3
        by_cases hlt : k < gs.length
        · obtain ⟨g, hg⟩ := some_at hlt
          have HG := hid hg
          have hsl := HSG.out wr HON.out
          obtain ⟨bg, off, rfl, hbl, hga⟩ := hsl.glyph hg
          obtain ⟨g0, g1, g2, g3⟩ := hga
          have hfg := HF.out.g g (List.mem_of_getElem? hg)
          have hkl : (k : Int) < (gs.length : Int) := by omega
          have hk0 : (0 : Int) ≤ (k : Int) := by omega
          have HKL := hid hlt
          obtain ⟨x0, x1, x2, x3⟩ := g
          simp only at g0 g1 g2 g3 hfg
          obtain ⟨q0, q1, q2, q3⟩ := hfg
          obtain ⟨n0, rfl⟩ : ∃ n : Nat, x0 = (n : Int) := ⟨x0.toNat, by omega⟩
          obtain ⟨n1, rfl⟩ : ∃ n : Nat, x1 = (n : Int) := ⟨x1.toNat, by omega⟩
          obtain ⟨n2, rfl⟩ : ∃ n : Nat, x2 = (n : Int) := ⟨x2.toNat, by omega⟩
          obtain ⟨n3, rfl⟩ : ∃ n : Nat, x3 = (n : Int) := ⟨x3.toNat, by omega⟩
          have HQ : Hid (n0 < 4294967296 ∧ n1 < 4294967296 ∧ n2 < 4294967296 ∧ n3 < 4294967296) := hid (by omega)
          have HT : Hid ((gs.take (k + 1)).flatMap gb = (gs.take k).flatMap gb ++ (be 3 n0 ++ (be 2 n1 ++ (be 2 n2 ++ be 2 n3)))) := hid (by
            rw [List.take_add_one, HG.out, List.flatMap_append]
            simp [gb])
          have HLN : Hid ((B0 ++ (gs.take k).flatMap gb).length + 9 ≤ room) := hid (by
            have := HRM.out
            rw [List.length_append, HBL.out, gbs_len, List.length_take]; omega)
          clear hg hsl hbl hlt q0 q1 q2 q3
          go_wp2_with fail
          have HN1 := hid (Blk.new wr #[.int .i64 n0, .int .i64 n1, .int .i64 n2, .int .i64 n3] 33 rfl)
          have HO1 := hid (HON.out.alloc (.cells #[.int .i64 n0, .int .i64 n1, .int .i64 n2, .int .i64 n3] 33))
          have HW1 := hid (HWR.out.only ((Only.refl [] wr).alloc (.cells #[.int .i64 n0, .int .i64 n1, .int .i64 n2, .int .i64 n3] 33)) (by simp) (by simp))
          have HB1 := hid (HBK.out.alloc (.cells #[.int .i64 n0, .int .i64 n1, .int .i64 n2, .int .i64 n3] 33))
          obtain ⟨V1, hV1⟩ : ∃ V1, wr.alloc (.cells #[.int .i64 n0, .int .i64 n1, .int .i64 n2, .int .i64 n3] 33) = V1 := ⟨_, rfl⟩
          obtain ⟨d, hd⟩ : ∃ d, wr.heap.size = d := ⟨_, rfl⟩
          have HDN : Hid (d ∉ [a, b]) := hid (by
            have h1 := HWR.out.blk.lt
            have h2 : b < wr.heap.size := by obtain ⟨_, hb, _⟩ := HWR.out.row; exact hb.lt
            simp; omega)
          rw [hV1] at HN1 HO1 HW1 HB1 ⊢
          rw [hd] at HN1 ⊢
          clear hV1 hd HWR HBK HON g0 g1 g2 g3
          refine (HL.out 5 n0 _ V1 HW1.out (by decide) HQ.out.1 (by have := HLN.out; simp only [sz]; omega)).mono ?_
          rintro e V2 ⟨rfl, hw2, ho2⟩
          have HW2 := hid hw2
          have HB2 := hid (ho2.blk HB1.out HNL.out)
          have HO2 := hid (HO1.out.trans ho2)
          have HN2 := hid (ho2.blk HN1.out HDN.out)
          clear hw2 ho2 HW1 HB1 HO1 HN1
          have c1 : V2.cell? ⟨d, 1, none⟩ = some (.int .i64 n1) := HN2.out.cell 1
          go_wp2_with fail
          refine (HL.out 6 n1 _ V2 HW2.out (by decide) HQ.out.2.1 (by have := HLN.out; rw [List.length_append (bs := be _ _), be_len]; simp only [sz]; omega)).mono ?_
          rintro e V3 ⟨rfl, hw3, ho3⟩
          have HW3 := hid hw3
          have HB3 := hid (ho3.blk HB2.out HNL.out)
          have HO3 := hid (HO2.out.trans ho3)
          have HN3 := hid (ho3.blk HN2.out HDN.out)
          clear hw3 ho3 HW2 HB2 HO2 HN2 c1
          have c1 : V3.cell? ⟨d, 2, none⟩ = some (.int .i64 n2) := HN3.out.cell 2
          go_wp2_with fail
          refine (HL.out 7 n2 _ V3 HW3.out (by decide) HQ.out.2.2.1 (by have := HLN.out; rw [List.length_append (bs := be _ _), List.length_append (bs := be _ _), be_len, be_len]; simp only [sz]; omega)).mono ?_
          rintro e V4 ⟨rfl, hw4, ho4⟩
          have HW4 := hid hw4
          have HB4 := hid (ho4.blk HB3.out HNL.out)
          have HO4 := hid (HO3.out.trans ho4)
          have HN4 := hid (ho4.blk HN3.out HDN.out)
          clear hw4 ho4 HW3 HB3 HO3 HN3 c1
          have c1 : V4.cell? ⟨d, 3, none⟩ = some (.int .i64 n3) := HN4.out.cell 3
          go_wp2_with fail
          refine (HL.out 8 n3 _ V4 HW4.out (by decide) HQ.out.2.2.2 (by have := HLN.out; rw [List.length_append (bs := be _ _), List.length_append (bs := be _ _), List.length_append (bs := be _ _), be_len, be_len, be_len]; simp only [sz]; omega)).mono ?_
          rintro e V5 ⟨rfl, hw5, ho5⟩
          have HW5 := hid hw5
          have HB5 := hid (ho5.blk HB4.out HNL.out)
          have HO5 := hid (HO4.out.trans ho5)
          clear hw5 ho5 HW4 HB4 HO4 HN4 c1
          go_wp2_with fail
          refine ⟨⟨k + 1, by go_num, by have := HKL.out; omega, ?_, HB5.out, HO5.out⟩, ?_⟩
          · have := HW5.out
            rw [HT.out]
            simp only [sz, List.append_assoc] at this ⊢
            exact this
          · have := HKL.out
            simp [RowKit.intOf]; omega
        · have hkl : ¬ (k : Int) < (gs.length : Int) := by omega
          have hke : k = gs.length := by omega
          subst hke
          rw [List.take_length] at HWR
          have c2 : wr.cell? ⟨h, 2, none⟩ = some (.slice ap ps.length cb) := HBK.out.cell 2
          clear hlt hk
          go_wp2_with fail
          refine (HL.out 9 ps.length _ wr HWR.out (by decide) (by have := HF.out.pl; omega) (by have := HRM.out; rw [List.length_append, HBL.out, gbs_len]; simp only [sz]; omega)).mono ?_
          rintro e X2 ⟨rfl, hw2, ho2⟩
          have HW2 := hid hw2
          have HB2 := hid (ho2.blk HBK.out HNL.out)
          have HO2 := hid (HON.out.trans ho2)
          clear hw2 ho2 c2 HWR HBK HON
          have c2 : X2.cell? ⟨h, 2, none⟩ = some (.slice ap ps.length cb) := HB2.out.cell 2
          obtain ⟨B1, hB1⟩ : ∃ B1, B0 ++ gs.flatMap gb ++ be (sz 9) ps.length = B1 := ⟨_, rfl⟩
          have HB1e : Hid (B1 = PF ++ (be 2 en ++ (be 2 gs.length ++ (gs.flatMap gb ++ be 2 ps.length)))) := hid (by rw [← hB1, HB0.out]; simp only [sz, List.append_assoc])
          have HBL1 : Hid (B1.length = 9 + 9 * gs.length) := hid (by rw [← hB1, List.length_append, List.length_append, HBL.out, gbs_len, be_len]; simp only [sz]; omega)
          rw [hB1] at HW2
          clear hB1
          go_wp2_with fail
          clear c2
          go_loopw [60] (fun vi w2 => ∃ k : Nat, vi = .int .i64 k ∧ k ≤ ps.length ∧ Wr w2 a b room (B1 ++ (ps.take k).flatMap pb) ∧ Blk w2 h [.int .i64 em, .slice ag gs.length ca, .slice ap ps.length cb] 25 ∧ Only [a, b] w w2) (fun vi _ => ps.length - (RowKit.intOf vi).toNat)
          case atStart => exact ⟨0, rfl, by omega, by simpa using HW2.out, HB2.out, HO2.out⟩
          case round =>
            obtain ⟨k, rfl, hk, hwr, hbk, hon⟩ := hrel
            have HWR := hid hwr
            have HBK := hid hbk
            have HON := hid hon
            clear hwr hbk hon HW2 HB2 HO2
            by_cases hlt : k < ps.length
            · obtain ⟨q, hq⟩ := some_at hlt
              have HQ := hid hq
              have hsl := HSP.out wr HON.out
              obtain ⟨bq, off, rfl, hbl, hqa⟩ := hsl.pair hq
              obtain ⟨g0, g1, g2, g3, g4⟩ := hqa
              have hkl : (k : Int) < (ps.length : Int) := by omega
              have hk0 : (0 : Int) ≤ (k : Int) := by omega
              have HKL := hid hlt
              have HT : Hid ((ps.take (k + 1)).flatMap pb = (ps.take k).flatMap pb ++ pb q) := hid (by
                rw [List.take_add_one, HQ.out, List.flatMap_append]
                simp)
              have HLN : Hid ((B1 ++ (ps.take k).flatMap pb).length + 10 ≤ room) := hid (by
                have h1 := HRM.out
                have h2 := pbs_len (ps.take k)
                rw [List.length_take] at h2
                rw [List.length_append, HBL1.out]; omega)
              have HC := hid (fun X (hX : Wr X a b room (B1 ++ (ps.take k).flatMap pb)) => HLP.out q _ X (List.mem_of_getElem? hq) hX HLN.out)
              obtain ⟨x0, x1, x2, x3, x4⟩ := q
              simp only at g0 g1 g2 g3 g4
              simp only [cp] at HC
              clear hq hsl hbl hlt
              go_wp2_with fail
              have HO1 := hid (HON.out.alloc (.cells #[.int .i64 x0, .int .i64 x1, .bool x2, .int .i64 x3, .int .i64 x4] 35))
              have HW1 := hid (HWR.out.only ((Only.refl [] wr).alloc (.cells #[.int .i64 x0, .int .i64 x1, .bool x2, .int .i64 x3, .int .i64 x4] 35)) (by simp) (by simp))
              have HB1 := hid (HBK.out.alloc (.cells #[.int .i64 x0, .int .i64 x1, .bool x2, .int .i64 x3, .int .i64 x4] 35))
              obtain ⟨V1, hV1⟩ : ∃ V1, wr.alloc (.cells #[.int .i64 x0, .int .i64 x1, .bool x2, .int .i64 x3, .int .i64 x4] 35) = V1 := ⟨_, rfl⟩
              rw [hV1] at HO1 HW1 HB1 ⊢
              clear hV1 HWR HBK HON g0 g1 g2 g3 g4
              refine (HC.out V1 HW1.out).mono ?_
              rintro e V2 ⟨rfl, hw2, ho2⟩
              have HW2 := hid hw2
              have HB2 := hid (ho2.blk HB1.out HNL.out)
              have HO2 := hid (HO1.out.trans ho2)
              clear hw2 ho2 HW1 HB1 HO1 HC
              go_wp2_with fail
              refine ⟨⟨k + 1, by go_num, by have := HKL.out; omega, ?_, HB2.out, HO2.out⟩, ?_⟩
              · rw [HT.out, ← List.append_assoc]
                exact HW2.out
              · have := HKL.out
                simp [RowKit.intOf]; omega
            · have hkl : ¬ (k : Int) < (ps.length : Int) := by omega
              have hke : k = ps.length := by omega
              subst hke
              rw [List.take_length] at HWR
              have c2 : wr.cell? ⟨a, 2, none⟩ = some (.int .u32 (sumB (B1 ++ ps.flatMap pb))) := HWR.out.blk.cell 2
              have HSL := hid (sumB_lt (B1 ++ ps.flatMap pb))
              have HEQ : Hid (fontB em gs ps = B1 ++ ps.flatMap pb ++ be 4 (sumB (B1 ++ ps.flatMap pb))) := hid (by
                have e : body em gs ps = B1 ++ ps.flatMap pb := by
                  unfold body
                  rw [HB1e.out, HEN.out, Int.toNat_natCast]
                  simp only [List.append_assoc]
                unfold fontB
                rw [e])
              have HLN : Hid ((B1 ++ ps.flatMap pb).length + 4 ≤ room) := hid (by
                have h1 := HRM.out
                have h2 := pbs_len ps
                rw [List.length_append, HBL1.out]; omega)
              obtain ⟨sm, hsm⟩ : ∃ sm, sumB (B1 ++ ps.flatMap pb) = sm := ⟨_, rfl⟩
              rw [hsm] at c2 HSL HEQ
              have hs1 : (sm : Int) ≤ 4294967295 := by have := HSL.out; omega
              clear hlt hk hsm
              go_wp2_with fail
              refine (HL.out 15 sm _ wr HWR.out (by decide) HSL.out (by have := HLN.out; simp only [sz]; omega)).mono ?_
              rintro e X3 ⟨rfl, hw3, ho3⟩
              go_wp2_with fail
              go_end0
              refine ⟨rfl, ?_, HON.out.trans ho3⟩
              rw [HEQ.out]
              exact hw3
end Go.Proofs.Ytdinlaoimpoolaa
