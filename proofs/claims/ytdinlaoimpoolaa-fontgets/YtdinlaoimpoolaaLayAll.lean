/- The writer: numbers laid, byte by byte, by copy. -/
import Derived.Test.YtdinlaoimpoolaaRd
import Derived.Laws.CopyOwn
import Derived.Deep.Cut
import Derived.Deep.CutRange
namespace Go.Proofs.Ytdinlaoimpoolaa
open Go.RowKit

theorem only_row {w : World} {g : Nat} (cs : Array Value) : Only [g] w (w.setRow g cs) := ⟨rfl, rfl, rfl, by simp [World.setRow], fun k _ hn => setRow_other w g k cs (by simpa using hn)⟩
/-- copy into a row, within a region that draws: no other block turns -/
theorem step_copy_only {P : Program} {ops : Array Oper} {o : Oper} {a : Act} {w : World} {K : Act → World → Prop} {Q : Exit → Act → World → Prop} {E : Prop} (hgd : o.guard = none) (d s : Operand) (dT sT : TypeId)
    (ho : o.op = .call { callee := .builtin .copy, args := #[d, s], argTypes := #[dT, sT] }) (elem : TypeId) (hu : P.underlying dT = some (.slice elem)) (hsz : (P.info? elem).map (·.size) = some 1)
    (g off dLen dCap : Nat) (ad : Addr) (sLen sCap : Nat) (hd : a.eval d = .slice (some ⟨g, off, none⟩) dLen dCap) (hs : a.eval s = .slice (some ad) sLen sCap)
    (cur : List Value) (t : TypeId) (hg : Blk w g cur t) (cs : List Value) (hn : cs.length = Nat.min sLen dLen)
    (hsrc : ∀ j v, cs[j]? = some v → w.cell? (ad.add j) = some v) (hfit : off + cs.length ≤ cur.length) (h1 : ∀ v ∈ cs, v.oneCell' = true)
    (h : ∀ w', Blk w' g (splice cur off cs) t → Only [g] w w' → K (a.put o.dst (goInt cs.length)) w') :
    if Region.wanted o (yielded ops a.tmps) = true then Oper.wp P o a w K Q else E := by
  have hw : Region.wanted o (yielded ops a.tmps) = true := by simp [Region.wanted, hgd]
  rw [if_pos hw]
  have hrun := run_copy_row (P := P) w dT sT o.type elem g off dLen dCap ad sLen sCap cur.toArray t cs hu hsz hg hn hsrc (by simpa using hfit) h1
  unfold Oper.wp
  simp [execOp, ho, resolve, invoke, builtin, hd, hs, hrun, Result.andThen]
  refine h _ ?_ (only_row _)
  have := setRow_heap w g cur.toArray (cur.take off ++ (cs ++ cur.drop (off + cs.length))).toArray t (0, 0) hg
  simpa [Blk, splice] using this

/-- bytes as cells -/
def u8s (bs : List Nat) : List Value := bs.map fun (b : Nat) => .int .u8 (b : Int)
theorem u8s_len (bs : List Nat) : (u8s bs).length = bs.length := by simp [u8s]
theorem u8s_app (a b : List Nat) : u8s (a ++ b) = u8s a ++ u8s b := by simp [u8s]
/-- the writer at a: these bytes are laid, room is for so many -/
structure Wr (W : World) (a b room : Nat) (bs : List Nat) : Prop where
  blk : Blk W a [.slice (some ⟨b, 0, none⟩) room room, .int .i64 bs.length, .int .u32 (sumB bs)] 100
  row : ∃ rest, Blk W b (u8s bs ++ rest) 5 ∧ bs.length + rest.length = room
theorem Wr.ne {W : World} {a b room : Nat} {bs : List Nat} (h : Wr W a b room bs) : a ≠ b := by
  obtain ⟨rest, h2, _⟩ := h.row
  intro e
  subst e
  exact absurd (h.blk.same h2).2 (by decide)
theorem Wr.below {W W' : World} {a b room : Nat} {bs : List Nat} (h : Wr W a b room bs) (k : Below W.heap.size W W') : Wr W' a b room bs := by
  obtain ⟨rest, h2, h3⟩ := h.row
  exact ⟨h.blk.below k, rest, h2.below k, h3⟩
theorem be_len : ∀ k n, (be k n).length = k
  | 0, _ => rfl
  | k + 1, n => by rw [be, List.length_cons, be_len]
theorem be_lt : ∀ k n, ∀ b ∈ be k n, b < 256
  | 0, _, b, h => by simp [be] at h
  | k + 1, n, b, h => by
    rw [be, List.mem_cons] at h
    rcases h with rfl | h
    · exact Nat.mod_lt _ (by decide)
    · exact be_lt k n b h
theorem be4 (n : Nat) : be 4 n = [n / 16777216 % 256, n / 65536 % 256, n / 256 % 256, n % 256] := by
  simp [be]
theorem be_drop {k : Nat} (hk : k ≤ 4) (n : Nat) : (be 4 n).drop (4 - k) = be k n := by
  have : k = 0 ∨ k = 1 ∨ k = 2 ∨ k = 3 ∨ k = 4 := by omega
  rcases this with rfl | rfl | rfl | rfl | rfl <;> rfl
theorem info5 : (Try.prog.info? 5).map (·.size) = some 1 := by kernel_rfl

theorem sumF_lt {s : Nat} (hs : s < 4294967296) : ∀ l, sumF s l < 4294967296 := by
  intro l
  induction l generalizing s with
  | nil => exact hs
  | cons c cs ih => exact ih (s := wit s c) (wit_lt s c)
theorem sumB_lt (l : List Nat) : sumB l < 4294967296 := sumF_lt (by omega) l
theorem sumF_snoc (s : Nat) (l : List Nat) (c : Nat) : sumF s (l ++ [c]) = wit (sumF s l) c := by
  unfold sumF
  rw [List.foldl_append, List.foldl_cons, List.foldl_nil]
theorem sumB_app (a b : List Nat) : sumB (a ++ b) = sumF (sumB a) b := by
  unfold sumB sumF
  rw [List.foldl_append]
theorem wrap_i64 {n : Int} (h0 : 0 ≤ n) (h1 : n ≤ 1000000000) : IntKind.i64.wrap n = n := by
  simp only [IntKind.wrap, IntKind.bits, IntKind.signed]
  simp
  omega
theorem splice_end (X R C : List Value) : splice (X ++ R) X.length C = (X ++ C) ++ R.drop C.length := by
  simp [splice, List.drop_append]
set_option maxRecDepth 100000 in
set_option maxHeartbeats 8000000 in
theorem layK1 (p n a b room : Nat) (bs : List Nat) (w : World) (hp : p ≤ 15) (hk : sz p = 1) (hn : n < 4294967296) (hW : Wr w a b room bs) (hroom : bs.length + 1 ≤ room) (hr : room ≤ 1000000) :
    Calls Try.prog 51 #[.pointer (some ⟨a, 0, none⟩), .int .i64 p, .int .i64 n] w fun e w' => e = .returned (.tuple #[]) ∧ Wr w' a b room (bs ++ be 1 n) ∧ Only [a, b] w w' := by
  have hsz := hid (size_any p (by omega))
  rw [hk] at hsz
  clear hk hp
  have hn1 : (n : Int) ≤ 4294967295 := by omega
  obtain ⟨rest, hrow, hlen⟩ := hW.row
  have HROW := hid hrow
  have HLEN := hid hlen
  have HBLK := hid hW.blk
  have HNE := hid hW.ne
  have HN := hid hn
  have HA0 : Hid (a < w.heap.size ∧ b < w.heap.size) := hid ⟨hW.blk.lt, hrow.lt⟩
  have HL4 : Hid (Blk (w.alloc (.cells #[.int .u8 ((n : Int) / 16777216), .int .u8 ((n : Int) / 65536 % 256), .int .u8 ((n : Int) / 256 % 256), .int .u8 ((n : Int) % 256)] 118)) w.heap.size (u8s (be 4 n)) 118) := hid (by
    rw [be4]
    have e : (n : Int) / 16777216 = ((n / 16777216 % 256 : Nat) : Int) := by omega
    rw [e]
    exact Blk.new w _ 118 rfl)
  have HB1 : Hid (Below w.heap.size w (w.alloc (.cells #[.int .u8 ((n : Int) / 16777216), .int .u8 ((n : Int) / 65536 % 256), .int .u8 ((n : Int) / 256 % 256), .int .u8 ((n : Int) % 256)] 118))) := hid ((Below.refl _ w).alloc (Nat.le_refl _) _)
  have HRM := hid (And.intro hroom hr)
  obtain ⟨h, hh⟩ : ∃ h, w.heap.size = h := ⟨_, rfl⟩
  rw [hh] at HL4
  clear hrow hlen hW hroom hr hn
  go_enter Try.func51, Try.ntmps51
  go_wp2_with (go_at_call 56; refine (hsz.out _).mono ?_; rintro e w' ⟨rfl, rfl⟩)
  obtain ⟨W1, hW1⟩ : ∃ W1, w.alloc (.cells #[.int .u8 ((n : Int) / 16777216), .int .u8 ((n : Int) / 65536 % 256), .int .u8 ((n : Int) / 256 % 256), .int .u8 ((n : Int) % 256)] 118) = W1 := ⟨_, rfl⟩
  rw [hW1] at HL4 HB1 ⊢
  clear hW1
  have HBK1 := hid (HBLK.out.below HB1.out)
  have HRW1 := hid (HROW.out.below HB1.out)
  have c0 : W1.cell? ⟨a, 0, none⟩ = some (.slice (some ⟨b, 0, none⟩) room room) := HBK1.out.cell 0
  have c1 : W1.cell? ⟨a, 1, none⟩ = some (.int .i64 bs.length) := HBK1.out.cell 1
  have f1 := HBK1.out.froz 1
  have l0 : (bs.length : Int) ≤ (room : Int) := by have := HRM.out; omega
  have l1 : (room : Int) ≤ 1000000 := by have := HRM.out; omega
  have HSRC : Hid (∀ j v, (u8s (be 1 n))[j]? = some v → W1.cell? ((⟨h, 3, none⟩ : Addr).add j) = some v) := hid fun j v hj => by
    rw [Addr.add_lit]
    refine (HL4.out.cell (3 + j)).trans ?_
    rw [← hj, show be 1 n = (be 4 n).drop 3 from (be_drop (k := 1) (by decide) n).symm]
    simp [u8s, List.getElem?_drop]
  have HFIT : Hid ((u8s bs).length + (u8s (be 1 n)).length ≤ (u8s bs ++ rest).length) := hid (by
    have := HRM.out.1
    have := HLEN.out
    rw [List.length_append, u8s_len, u8s_len, be_len]; omega)
  have HMIN : Hid ((u8s (be 1 n)).length = Nat.min 1 (room - bs.length)) := hid (by
    have := HRM.out.1
    rw [u8s_len, be_len]; exact (Nat.min_eq_left (by omega)).symm)
  have H1C : Hid (∀ v ∈ u8s (be 1 n), v.oneCell' = true) := hid (by
    intro v hv
    simp only [u8s, List.mem_map] at hv
    obtain ⟨x, _, rfl⟩ := hv
    rfl)
  have HWR : Hid (IntKind.i64.wrap ((bs.length : Int) + ((u8s (be 1 n)).length : Int)) = (bs.length : Int) + 1) := hid (by
    rw [u8s_len, be_len]
    exact wrap_i64 (by omega) (by omega))
  have mf : Try.prog.follows .mixedOrders = true := by kernel_rfl
  have hre : ¬ room = bs.length := by have := HRM.out; omega
  have HHN : Hid (h ≠ a ∧ h ≠ b ∧ w.heap.size = h) := hid (by have := HA0.out; omega)
  go_cut [] from 26 to 43 (fun wx => Blk wx a [.slice (some ⟨b, 0, none⟩) room room, .int .i64 ((bs.length : Int) + 1), .int .u32 (sumB bs)] 100 ∧ Blk wx b (splice (u8s bs ++ rest) bs.length (u8s (be 1 n))) 5 ∧ Only [a, b] W1 wx)
  case first =>
    go_region_law ((refine step_copy_only rfl _ _ 56 56 rfl 5 Try.underlying56 info5 b bs.length (room - bs.length) (room - bs.length) ⟨h, 3, none⟩ 1 1 (by rfl) (by rfl) (u8s bs ++ rest) 5 HRW1.out (u8s (be 1 n)) HMIN.out HSRC.out (by rw [← u8s_len bs]; exact HFIT.out) H1C.out ?_; intro w3 hrow3 ho3; have HRW3 := hid hrow3; have HO3 : Hid (Only [b] W1 w3) := hid ⟨ho3.os, ho3.tape, ho3.output, ho3.size, ho3.block⟩; have HBK3 := hid (HO3.out.blk HBK1.out (by have := HNE.out; simp; omega)); have d1 : w3.cell? ⟨a, 1, none⟩ = some (.int .i64 bs.length) := HBK3.out.cell 1; have d0 : w3.cell? ⟨a, 0, none⟩ = some (.slice (some ⟨b, 0, none⟩) room room) := HBK3.out.cell 0; have g1 := HBK3.out.froz 1; clear hrow3 ho3))
    all_goals
      (try go_wp2_with fail)
      go_meet
      rw [HWR.out]
      exact ⟨HBK3.out.set 1 _, HRW3.out.other _ _ (by have := HNE.out; simp; omega), (HO3.out.mono (by intro k _ h; simp at h ⊢; exact .inr h)).set (p := ⟨a, 1, none⟩) (.inl (by simp)) _⟩
  case rest =>
    obtain ⟨hk1, hk2, hk3⟩ := hcut
    obtain ⟨W4, hW4⟩ : ∃ W4, wc = W4 := ⟨_, rfl⟩
    rw [hW4] at hk1 hk2 hk3 ⊢
    clear hW4 c0 c1 f1 hre l0 l1
    have HK1 := hid hk1
    have HK2 := hid hk2
    have HK3 := hid hk3
    have HS4 := hid (hk3.blk HL4.out (by have := HHN.out; simp; omega))
    clear hk1 hk2 hk3
    have HLT := hid (sumF_lt (sumB_lt bs))
    go_wp2_with fail
    go_loopw [46] (fun vi wr => ∃ j : Nat, vi = .int .i64 j ∧ j ≤ 1 ∧ Blk wr a [.slice (some ⟨b, 0, none⟩) room room, .int .i64 ((bs.length : Int) + 1), .int .u32 (sumF (sumB bs) ((be 1 n).take j))] 100 ∧ Only [a] W4 wr) (fun vi _ => 1 - (RowKit.intOf vi).toNat)
    case atStart => exact ⟨0, rfl, Nat.zero_le _, HK1.out, Only.refl _ _⟩
    case round =>
      obtain ⟨j, rfl, hj, hb, ho⟩ := hrel
      have HB := hid hb
      have HO := hid ho
      clear hb ho
      by_cases hlt : j < 1
      · obtain ⟨x, hx⟩ := some_at (xs := be 1 n) (i := j) (by rw [be_len]; exact hlt)
        have HX := hid hx
        have hx256 : x < 256 := be_lt 1 n x (List.mem_of_getElem? hx)
        have hcell : wr.cell? ⟨h, 3 + j, none⟩ = some (.int .u8 x) := by
          refine ((HO.out.blk HS4.out (by have := HHN.out; simp; omega)).cell (3 + j)).trans ?_
          have : (be 4 n)[3 + j]? = some x := by
            rw [← List.getElem?_drop, be_drop (k := 1) (by decide) n]; exact hx
          simp [u8s, this]
        have c2 : wr.cell? ⟨a, 2, none⟩ = some (.int .u32 (sumF (sumB bs) ((be 1 n).take j))) := HB.out.cell 2
        have f2 := HB.out.froz 2
        have hji : (j : Int) < 1 := by omega
        have hj0 : (0 : Int) ≤ (j : Int) := by omega
        have HW := hid (with_any (sumF (sumB bs) ((be 1 n).take j)) x (HLT.out _) hx256)
        have HJ := hid hlt
        clear hx hx256 hlt
        go_wp2_with (go_at_call 55; refine (HW.out _).mono ?_; rintro e w' ⟨rfl, rfl⟩)
        refine ⟨⟨j + 1, by go_num, by have := HJ.out; omega, ?_, HO.out.set (p := ⟨a, 2, none⟩) (.inl (by simp)) _⟩, ?_⟩
        · have e : sumF (sumB bs) ((be 1 n).take (j + 1)) = wit (sumF (sumB bs) ((be 1 n).take j)) x := by
            rw [List.take_add_one, HX.out]
            exact sumF_snoc _ _ _
          rw [e]
          exact HB.out.set 2 _
        · have := HJ.out
          simp [RowKit.intOf]; omega
      · have hji : ¬ (j : Int) < 1 := by omega
        have hjk : j = 1 := by omega
        subst hjk
        clear hlt
        go_wp2_with fail
        go_end0
        have hbk := HB.out
        rw [List.take_of_length_le (Nat.le_of_eq (be_len _ _)), ← sumB_app] at hbk
        refine ⟨rfl, ⟨?_, rest.drop (u8s (be 1 n)).length, ?_, ?_⟩, ?_⟩
        · rw [List.length_append, be_len]
          exact hbk
        · rw [u8s_app, ← splice_end, u8s_len bs]
          exact HO.out.blk HK2.out (by have := HNE.out; simp; omega)
        · have := HLEN.out
          have := HRM.out
          rw [List.length_append, List.length_drop, u8s_len, be_len]; omega
        · exact ((Only.ofBelow HB1.out).behind (HK3.out.fresh HO.out (by simp)))
end Go.Proofs.Ytdinlaoimpoolaa
namespace Go.Proofs.Ytdinlaoimpoolaa
open Go.RowKit

set_option maxRecDepth 100000 in
set_option maxHeartbeats 8000000 in
theorem layK2 (p n a b room : Nat) (bs : List Nat) (w : World) (hp : p ≤ 15) (hk : sz p = 2) (hn : n < 4294967296) (hW : Wr w a b room bs) (hroom : bs.length + 2 ≤ room) (hr : room ≤ 1000000) :
    Calls Try.prog 51 #[.pointer (some ⟨a, 0, none⟩), .int .i64 p, .int .i64 n] w fun e w' => e = .returned (.tuple #[]) ∧ Wr w' a b room (bs ++ be 2 n) ∧ Only [a, b] w w' := by
  have hsz := hid (size_any p (by omega))
  rw [hk] at hsz
  clear hk hp
  have hn1 : (n : Int) ≤ 4294967295 := by omega
  obtain ⟨rest, hrow, hlen⟩ := hW.row
  have HROW := hid hrow
  have HLEN := hid hlen
  have HBLK := hid hW.blk
  have HNE := hid hW.ne
  have HN := hid hn
  have HA0 : Hid (a < w.heap.size ∧ b < w.heap.size) := hid ⟨hW.blk.lt, hrow.lt⟩
  have HL4 : Hid (Blk (w.alloc (.cells #[.int .u8 ((n : Int) / 16777216), .int .u8 ((n : Int) / 65536 % 256), .int .u8 ((n : Int) / 256 % 256), .int .u8 ((n : Int) % 256)] 118)) w.heap.size (u8s (be 4 n)) 118) := hid (by
    rw [be4]
    have e : (n : Int) / 16777216 = ((n / 16777216 % 256 : Nat) : Int) := by omega
    rw [e]
    exact Blk.new w _ 118 rfl)
  have HB1 : Hid (Below w.heap.size w (w.alloc (.cells #[.int .u8 ((n : Int) / 16777216), .int .u8 ((n : Int) / 65536 % 256), .int .u8 ((n : Int) / 256 % 256), .int .u8 ((n : Int) % 256)] 118))) := hid ((Below.refl _ w).alloc (Nat.le_refl _) _)
  have HRM := hid (And.intro hroom hr)
  obtain ⟨h, hh⟩ : ∃ h, w.heap.size = h := ⟨_, rfl⟩
  rw [hh] at HL4
  clear hrow hlen hW hroom hr hn
  go_enter Try.func51, Try.ntmps51
  go_wp2_with (go_at_call 56; refine (hsz.out _).mono ?_; rintro e w' ⟨rfl, rfl⟩)
  obtain ⟨W1, hW1⟩ : ∃ W1, w.alloc (.cells #[.int .u8 ((n : Int) / 16777216), .int .u8 ((n : Int) / 65536 % 256), .int .u8 ((n : Int) / 256 % 256), .int .u8 ((n : Int) % 256)] 118) = W1 := ⟨_, rfl⟩
  rw [hW1] at HL4 HB1 ⊢
  clear hW1
  have HBK1 := hid (HBLK.out.below HB1.out)
  have HRW1 := hid (HROW.out.below HB1.out)
  have c0 : W1.cell? ⟨a, 0, none⟩ = some (.slice (some ⟨b, 0, none⟩) room room) := HBK1.out.cell 0
  have c1 : W1.cell? ⟨a, 1, none⟩ = some (.int .i64 bs.length) := HBK1.out.cell 1
  have f1 := HBK1.out.froz 1
  have l0 : (bs.length : Int) ≤ (room : Int) := by have := HRM.out; omega
  have l1 : (room : Int) ≤ 1000000 := by have := HRM.out; omega
  have HSRC : Hid (∀ j v, (u8s (be 2 n))[j]? = some v → W1.cell? ((⟨h, 2, none⟩ : Addr).add j) = some v) := hid fun j v hj => by
    rw [Addr.add_lit]
    refine (HL4.out.cell (2 + j)).trans ?_
    rw [← hj, show be 2 n = (be 4 n).drop 2 from (be_drop (k := 2) (by decide) n).symm]
    simp [u8s, List.getElem?_drop]
  have HFIT : Hid ((u8s bs).length + (u8s (be 2 n)).length ≤ (u8s bs ++ rest).length) := hid (by
    have := HRM.out.1
    have := HLEN.out
    rw [List.length_append, u8s_len, u8s_len, be_len]; omega)
  have HMIN : Hid ((u8s (be 2 n)).length = Nat.min 2 (room - bs.length)) := hid (by
    have := HRM.out.1
    rw [u8s_len, be_len]; exact (Nat.min_eq_left (by omega)).symm)
  have H1C : Hid (∀ v ∈ u8s (be 2 n), v.oneCell' = true) := hid (by
    intro v hv
    simp only [u8s, List.mem_map] at hv
    obtain ⟨x, _, rfl⟩ := hv
    rfl)
  have HWR : Hid (IntKind.i64.wrap ((bs.length : Int) + ((u8s (be 2 n)).length : Int)) = (bs.length : Int) + 2) := hid (by
    rw [u8s_len, be_len]
    exact wrap_i64 (by omega) (by omega))
  have mf : Try.prog.follows .mixedOrders = true := by kernel_rfl
  have hre : ¬ room = bs.length := by have := HRM.out; omega
  have HHN : Hid (h ≠ a ∧ h ≠ b ∧ w.heap.size = h) := hid (by have := HA0.out; omega)
  go_cut [] from 26 to 43 (fun wx => Blk wx a [.slice (some ⟨b, 0, none⟩) room room, .int .i64 ((bs.length : Int) + 2), .int .u32 (sumB bs)] 100 ∧ Blk wx b (splice (u8s bs ++ rest) bs.length (u8s (be 2 n))) 5 ∧ Only [a, b] W1 wx)
  case first =>
    go_region_law ((refine step_copy_only rfl _ _ 56 56 rfl 5 Try.underlying56 info5 b bs.length (room - bs.length) (room - bs.length) ⟨h, 2, none⟩ 2 2 (by rfl) (by rfl) (u8s bs ++ rest) 5 HRW1.out (u8s (be 2 n)) HMIN.out HSRC.out (by rw [← u8s_len bs]; exact HFIT.out) H1C.out ?_; intro w3 hrow3 ho3; have HRW3 := hid hrow3; have HO3 : Hid (Only [b] W1 w3) := hid ⟨ho3.os, ho3.tape, ho3.output, ho3.size, ho3.block⟩; have HBK3 := hid (HO3.out.blk HBK1.out (by have := HNE.out; simp; omega)); have d1 : w3.cell? ⟨a, 1, none⟩ = some (.int .i64 bs.length) := HBK3.out.cell 1; have d0 : w3.cell? ⟨a, 0, none⟩ = some (.slice (some ⟨b, 0, none⟩) room room) := HBK3.out.cell 0; have g1 := HBK3.out.froz 1; clear hrow3 ho3))
    all_goals
      (try go_wp2_with fail)
      go_meet
      rw [HWR.out]
      exact ⟨HBK3.out.set 1 _, HRW3.out.other _ _ (by have := HNE.out; simp; omega), (HO3.out.mono (by intro k _ h; simp at h ⊢; exact .inr h)).set (p := ⟨a, 1, none⟩) (.inl (by simp)) _⟩
  case rest =>
    obtain ⟨hk1, hk2, hk3⟩ := hcut
    obtain ⟨W4, hW4⟩ : ∃ W4, wc = W4 := ⟨_, rfl⟩
    rw [hW4] at hk1 hk2 hk3 ⊢
    clear hW4 c0 c1 f1 hre l0 l1
    have HK1 := hid hk1
    have HK2 := hid hk2
    have HK3 := hid hk3
    have HS4 := hid (hk3.blk HL4.out (by have := HHN.out; simp; omega))
    clear hk1 hk2 hk3
    have HLT := hid (sumF_lt (sumB_lt bs))
    go_wp2_with fail
    go_loopw [46] (fun vi wr => ∃ j : Nat, vi = .int .i64 j ∧ j ≤ 2 ∧ Blk wr a [.slice (some ⟨b, 0, none⟩) room room, .int .i64 ((bs.length : Int) + 2), .int .u32 (sumF (sumB bs) ((be 2 n).take j))] 100 ∧ Only [a] W4 wr) (fun vi _ => 2 - (RowKit.intOf vi).toNat)
    case atStart => exact ⟨0, rfl, Nat.zero_le _, HK1.out, Only.refl _ _⟩
    case round =>
      obtain ⟨j, rfl, hj, hb, ho⟩ := hrel
      have HB := hid hb
      have HO := hid ho
      clear hb ho
      by_cases hlt : j < 2
      · obtain ⟨x, hx⟩ := some_at (xs := be 2 n) (i := j) (by rw [be_len]; exact hlt)
        have HX := hid hx
        have hx256 : x < 256 := be_lt 2 n x (List.mem_of_getElem? hx)
        have hcell : wr.cell? ⟨h, 2 + j, none⟩ = some (.int .u8 x) := by
          refine ((HO.out.blk HS4.out (by have := HHN.out; simp; omega)).cell (2 + j)).trans ?_
          have : (be 4 n)[2 + j]? = some x := by
            rw [← List.getElem?_drop, be_drop (k := 2) (by decide) n]; exact hx
          simp [u8s, this]
        have c2 : wr.cell? ⟨a, 2, none⟩ = some (.int .u32 (sumF (sumB bs) ((be 2 n).take j))) := HB.out.cell 2
        have f2 := HB.out.froz 2
        have hji : (j : Int) < 2 := by omega
        have hj0 : (0 : Int) ≤ (j : Int) := by omega
        have HW := hid (with_any (sumF (sumB bs) ((be 2 n).take j)) x (HLT.out _) hx256)
        have HJ := hid hlt
        clear hx hx256 hlt
        go_wp2_with (go_at_call 55; refine (HW.out _).mono ?_; rintro e w' ⟨rfl, rfl⟩)
        refine ⟨⟨j + 1, by go_num, by have := HJ.out; omega, ?_, HO.out.set (p := ⟨a, 2, none⟩) (.inl (by simp)) _⟩, ?_⟩
        · have e : sumF (sumB bs) ((be 2 n).take (j + 1)) = wit (sumF (sumB bs) ((be 2 n).take j)) x := by
            rw [List.take_add_one, HX.out]
            exact sumF_snoc _ _ _
          rw [e]
          exact HB.out.set 2 _
        · have := HJ.out
          simp [RowKit.intOf]; omega
      · have hji : ¬ (j : Int) < 2 := by omega
        have hjk : j = 2 := by omega
        subst hjk
        clear hlt
        go_wp2_with fail
        go_end0
        have hbk := HB.out
        rw [List.take_of_length_le (Nat.le_of_eq (be_len _ _)), ← sumB_app] at hbk
        refine ⟨rfl, ⟨?_, rest.drop (u8s (be 2 n)).length, ?_, ?_⟩, ?_⟩
        · rw [List.length_append, be_len]
          exact hbk
        · rw [u8s_app, ← splice_end, u8s_len bs]
          exact HO.out.blk HK2.out (by have := HNE.out; simp; omega)
        · have := HLEN.out
          have := HRM.out
          rw [List.length_append, List.length_drop, u8s_len, be_len]; omega
        · exact ((Only.ofBelow HB1.out).behind (HK3.out.fresh HO.out (by simp)))
end Go.Proofs.Ytdinlaoimpoolaa
namespace Go.Proofs.Ytdinlaoimpoolaa
open Go.RowKit

set_option maxRecDepth 100000 in
set_option maxHeartbeats 8000000 in
theorem layK3 (p n a b room : Nat) (bs : List Nat) (w : World) (hp : p ≤ 15) (hk : sz p = 3) (hn : n < 4294967296) (hW : Wr w a b room bs) (hroom : bs.length + 3 ≤ room) (hr : room ≤ 1000000) :
    Calls Try.prog 51 #[.pointer (some ⟨a, 0, none⟩), .int .i64 p, .int .i64 n] w fun e w' => e = .returned (.tuple #[]) ∧ Wr w' a b room (bs ++ be 3 n) ∧ Only [a, b] w w' := by
  have hsz := hid (size_any p (by omega))
  rw [hk] at hsz
  clear hk hp
  have hn1 : (n : Int) ≤ 4294967295 := by omega
  obtain ⟨rest, hrow, hlen⟩ := hW.row
  have HROW := hid hrow
  have HLEN := hid hlen
  have HBLK := hid hW.blk
  have HNE := hid hW.ne
  have HN := hid hn
  have HA0 : Hid (a < w.heap.size ∧ b < w.heap.size) := hid ⟨hW.blk.lt, hrow.lt⟩
  have HL4 : Hid (Blk (w.alloc (.cells #[.int .u8 ((n : Int) / 16777216), .int .u8 ((n : Int) / 65536 % 256), .int .u8 ((n : Int) / 256 % 256), .int .u8 ((n : Int) % 256)] 118)) w.heap.size (u8s (be 4 n)) 118) := hid (by
    rw [be4]
    have e : (n : Int) / 16777216 = ((n / 16777216 % 256 : Nat) : Int) := by omega
    rw [e]
    exact Blk.new w _ 118 rfl)
  have HB1 : Hid (Below w.heap.size w (w.alloc (.cells #[.int .u8 ((n : Int) / 16777216), .int .u8 ((n : Int) / 65536 % 256), .int .u8 ((n : Int) / 256 % 256), .int .u8 ((n : Int) % 256)] 118))) := hid ((Below.refl _ w).alloc (Nat.le_refl _) _)
  have HRM := hid (And.intro hroom hr)
  obtain ⟨h, hh⟩ : ∃ h, w.heap.size = h := ⟨_, rfl⟩
  rw [hh] at HL4
  clear hrow hlen hW hroom hr hn
  go_enter Try.func51, Try.ntmps51
  go_wp2_with (go_at_call 56; refine (hsz.out _).mono ?_; rintro e w' ⟨rfl, rfl⟩)
  obtain ⟨W1, hW1⟩ : ∃ W1, w.alloc (.cells #[.int .u8 ((n : Int) / 16777216), .int .u8 ((n : Int) / 65536 % 256), .int .u8 ((n : Int) / 256 % 256), .int .u8 ((n : Int) % 256)] 118) = W1 := ⟨_, rfl⟩
  rw [hW1] at HL4 HB1 ⊢
  clear hW1
  have HBK1 := hid (HBLK.out.below HB1.out)
  have HRW1 := hid (HROW.out.below HB1.out)
  have c0 : W1.cell? ⟨a, 0, none⟩ = some (.slice (some ⟨b, 0, none⟩) room room) := HBK1.out.cell 0
  have c1 : W1.cell? ⟨a, 1, none⟩ = some (.int .i64 bs.length) := HBK1.out.cell 1
  have f1 := HBK1.out.froz 1
  have l0 : (bs.length : Int) ≤ (room : Int) := by have := HRM.out; omega
  have l1 : (room : Int) ≤ 1000000 := by have := HRM.out; omega
  have HSRC : Hid (∀ j v, (u8s (be 3 n))[j]? = some v → W1.cell? ((⟨h, 1, none⟩ : Addr).add j) = some v) := hid fun j v hj => by
    rw [Addr.add_lit]
    refine (HL4.out.cell (1 + j)).trans ?_
    rw [← hj, show be 3 n = (be 4 n).drop 1 from (be_drop (k := 3) (by decide) n).symm]
    unfold u8s
    rw [List.getElem?_map, List.getElem?_map, List.getElem?_drop]
  have HFIT : Hid ((u8s bs).length + (u8s (be 3 n)).length ≤ (u8s bs ++ rest).length) := hid (by
    have := HRM.out.1
    have := HLEN.out
    rw [List.length_append, u8s_len, u8s_len, be_len]; omega)
  have HMIN : Hid ((u8s (be 3 n)).length = Nat.min 3 (room - bs.length)) := hid (by
    have := HRM.out.1
    rw [u8s_len, be_len]; exact (Nat.min_eq_left (by omega)).symm)
  have H1C : Hid (∀ v ∈ u8s (be 3 n), v.oneCell' = true) := hid (by
    intro v hv
    simp only [u8s, List.mem_map] at hv
    obtain ⟨x, _, rfl⟩ := hv
    rfl)
  have HWR : Hid (IntKind.i64.wrap ((bs.length : Int) + ((u8s (be 3 n)).length : Int)) = (bs.length : Int) + 3) := hid (by
    rw [u8s_len, be_len]
    exact wrap_i64 (by omega) (by omega))
  have mf : Try.prog.follows .mixedOrders = true := by kernel_rfl
  have hre : ¬ room = bs.length := by have := HRM.out; omega
  have HHN : Hid (h ≠ a ∧ h ≠ b ∧ w.heap.size = h) := hid (by have := HA0.out; omega)
  go_cut [] from 26 to 43 (fun wx => Blk wx a [.slice (some ⟨b, 0, none⟩) room room, .int .i64 ((bs.length : Int) + 3), .int .u32 (sumB bs)] 100 ∧ Blk wx b (splice (u8s bs ++ rest) bs.length (u8s (be 3 n))) 5 ∧ Only [a, b] W1 wx)
  case first =>
    go_region_law ((refine step_copy_only rfl _ _ 56 56 rfl 5 Try.underlying56 info5 b bs.length (room - bs.length) (room - bs.length) ⟨h, 1, none⟩ 3 3 (by rfl) (by rfl) (u8s bs ++ rest) 5 HRW1.out (u8s (be 3 n)) HMIN.out HSRC.out (by rw [← u8s_len bs]; exact HFIT.out) H1C.out ?_; intro w3 hrow3 ho3; have HRW3 := hid hrow3; have HO3 : Hid (Only [b] W1 w3) := hid ⟨ho3.os, ho3.tape, ho3.output, ho3.size, ho3.block⟩; have HBK3 := hid (HO3.out.blk HBK1.out (by have := HNE.out; simp; omega)); have d1 : w3.cell? ⟨a, 1, none⟩ = some (.int .i64 bs.length) := HBK3.out.cell 1; have d0 : w3.cell? ⟨a, 0, none⟩ = some (.slice (some ⟨b, 0, none⟩) room room) := HBK3.out.cell 0; have g1 := HBK3.out.froz 1; clear hrow3 ho3))
    all_goals
      (try go_wp2_with fail)
      go_meet
      rw [HWR.out]
      exact ⟨HBK3.out.set 1 _, HRW3.out.other _ _ (by have := HNE.out; simp; omega), (HO3.out.mono (by intro k _ h; simp at h ⊢; exact .inr h)).set (p := ⟨a, 1, none⟩) (.inl (by simp)) _⟩
  case rest =>
    obtain ⟨hk1, hk2, hk3⟩ := hcut
    obtain ⟨W4, hW4⟩ : ∃ W4, wc = W4 := ⟨_, rfl⟩
    rw [hW4] at hk1 hk2 hk3 ⊢
    clear hW4 c0 c1 f1 hre l0 l1
    have HK1 := hid hk1
    have HK2 := hid hk2
    have HK3 := hid hk3
    have HS4 := hid (hk3.blk HL4.out (by have := HHN.out; simp; omega))
    clear hk1 hk2 hk3
    have HLT := hid (sumF_lt (sumB_lt bs))
    go_wp2_with fail
    go_loopw [46] (fun vi wr => ∃ j : Nat, vi = .int .i64 j ∧ j ≤ 3 ∧ Blk wr a [.slice (some ⟨b, 0, none⟩) room room, .int .i64 ((bs.length : Int) + 3), .int .u32 (sumF (sumB bs) ((be 3 n).take j))] 100 ∧ Only [a] W4 wr) (fun vi _ => 3 - (RowKit.intOf vi).toNat)
    case atStart => exact ⟨0, rfl, Nat.zero_le _, HK1.out, Only.refl _ _⟩
    case round =>
      obtain ⟨j, rfl, hj, hb, ho⟩ := hrel
      have HB := hid hb
      have HO := hid ho
      clear hb ho
      by_cases hlt : j < 3
      · obtain ⟨x, hx⟩ := some_at (xs := be 3 n) (i := j) (by rw [be_len]; exact hlt)
        have HX := hid hx
        have hx256 : x < 256 := be_lt 3 n x (List.mem_of_getElem? hx)
        have hcell : wr.cell? ⟨h, 1 + j, none⟩ = some (.int .u8 x) := by
          refine ((HO.out.blk HS4.out (by have := HHN.out; simp; omega)).cell (1 + j)).trans ?_
          have : (be 4 n)[1 + j]? = some x := by
            rw [← List.getElem?_drop, be_drop (k := 3) (by decide) n]; exact hx
          unfold u8s
          rw [List.getElem?_map, this]
          rfl
        have c2 : wr.cell? ⟨a, 2, none⟩ = some (.int .u32 (sumF (sumB bs) ((be 3 n).take j))) := HB.out.cell 2
        have f2 := HB.out.froz 2
        have hji : (j : Int) < 3 := by omega
        have hj0 : (0 : Int) ≤ (j : Int) := by omega
        have HW := hid (with_any (sumF (sumB bs) ((be 3 n).take j)) x (HLT.out _) hx256)
        have HJ := hid hlt
        clear hx hx256 hlt
        go_wp2_with (go_at_call 55; refine (HW.out _).mono ?_; rintro e w' ⟨rfl, rfl⟩)
        refine ⟨⟨j + 1, by go_num, by have := HJ.out; omega, ?_, HO.out.set (p := ⟨a, 2, none⟩) (.inl (by simp)) _⟩, ?_⟩
        · have e : sumF (sumB bs) ((be 3 n).take (j + 1)) = wit (sumF (sumB bs) ((be 3 n).take j)) x := by
            rw [List.take_add_one, HX.out]
            exact sumF_snoc _ _ _
          rw [e]
          exact HB.out.set 2 _
        · have := HJ.out
          simp [RowKit.intOf]; omega
      · have hji : ¬ (j : Int) < 3 := by omega
        have hjk : j = 3 := by omega
        subst hjk
        clear hlt
        go_wp2_with fail
        go_end0
        have hbk := HB.out
        rw [List.take_of_length_le (Nat.le_of_eq (be_len _ _)), ← sumB_app] at hbk
        refine ⟨rfl, ⟨?_, rest.drop (u8s (be 3 n)).length, ?_, ?_⟩, ?_⟩
        · rw [List.length_append, be_len]
          exact hbk
        · rw [u8s_app, ← splice_end, u8s_len bs]
          exact HO.out.blk HK2.out (by have := HNE.out; simp; omega)
        · have := HLEN.out
          have := HRM.out
          rw [List.length_append, List.length_drop, u8s_len, be_len]; omega
        · exact ((Only.ofBelow HB1.out).behind (HK3.out.fresh HO.out (by simp)))
end Go.Proofs.Ytdinlaoimpoolaa
namespace Go.Proofs.Ytdinlaoimpoolaa
open Go.RowKit

set_option maxRecDepth 100000 in
set_option maxHeartbeats 8000000 in
theorem layK4 (p n a b room : Nat) (bs : List Nat) (w : World) (hp : p ≤ 15) (hk : sz p = 4) (hn : n < 4294967296) (hW : Wr w a b room bs) (hroom : bs.length + 4 ≤ room) (hr : room ≤ 1000000) :
    Calls Try.prog 51 #[.pointer (some ⟨a, 0, none⟩), .int .i64 p, .int .i64 n] w fun e w' => e = .returned (.tuple #[]) ∧ Wr w' a b room (bs ++ be 4 n) ∧ Only [a, b] w w' := by
  have hsz := hid (size_any p (by omega))
  rw [hk] at hsz
  clear hk hp
  have hn1 : (n : Int) ≤ 4294967295 := by omega
  obtain ⟨rest, hrow, hlen⟩ := hW.row
  have HROW := hid hrow
  have HLEN := hid hlen
  have HBLK := hid hW.blk
  have HNE := hid hW.ne
  have HN := hid hn
  have HA0 : Hid (a < w.heap.size ∧ b < w.heap.size) := hid ⟨hW.blk.lt, hrow.lt⟩
  have HL4 : Hid (Blk (w.alloc (.cells #[.int .u8 ((n : Int) / 16777216), .int .u8 ((n : Int) / 65536 % 256), .int .u8 ((n : Int) / 256 % 256), .int .u8 ((n : Int) % 256)] 118)) w.heap.size (u8s (be 4 n)) 118) := hid (by
    rw [be4]
    have e : (n : Int) / 16777216 = ((n / 16777216 % 256 : Nat) : Int) := by omega
    rw [e]
    exact Blk.new w _ 118 rfl)
  have HB1 : Hid (Below w.heap.size w (w.alloc (.cells #[.int .u8 ((n : Int) / 16777216), .int .u8 ((n : Int) / 65536 % 256), .int .u8 ((n : Int) / 256 % 256), .int .u8 ((n : Int) % 256)] 118))) := hid ((Below.refl _ w).alloc (Nat.le_refl _) _)
  have HRM := hid (And.intro hroom hr)
  obtain ⟨h, hh⟩ : ∃ h, w.heap.size = h := ⟨_, rfl⟩
  rw [hh] at HL4
  clear hrow hlen hW hroom hr hn
  go_enter Try.func51, Try.ntmps51
  go_wp2_with (go_at_call 56; refine (hsz.out _).mono ?_; rintro e w' ⟨rfl, rfl⟩)
  obtain ⟨W1, hW1⟩ : ∃ W1, w.alloc (.cells #[.int .u8 ((n : Int) / 16777216), .int .u8 ((n : Int) / 65536 % 256), .int .u8 ((n : Int) / 256 % 256), .int .u8 ((n : Int) % 256)] 118) = W1 := ⟨_, rfl⟩
  rw [hW1] at HL4 HB1 ⊢
  clear hW1
  have HBK1 := hid (HBLK.out.below HB1.out)
  have HRW1 := hid (HROW.out.below HB1.out)
  have c0 : W1.cell? ⟨a, 0, none⟩ = some (.slice (some ⟨b, 0, none⟩) room room) := HBK1.out.cell 0
  have c1 : W1.cell? ⟨a, 1, none⟩ = some (.int .i64 bs.length) := HBK1.out.cell 1
  have f1 := HBK1.out.froz 1
  have l0 : (bs.length : Int) ≤ (room : Int) := by have := HRM.out; omega
  have l1 : (room : Int) ≤ 1000000 := by have := HRM.out; omega
  have HSRC : Hid (∀ j v, (u8s (be 4 n))[j]? = some v → W1.cell? ((⟨h, 0, none⟩ : Addr).add j) = some v) := hid fun j v hj => by
    rw [Addr.add_lit]
    refine (HL4.out.cell (0 + j)).trans ?_
    rw [Nat.zero_add]; exact hj
  have HFIT : Hid ((u8s bs).length + (u8s (be 4 n)).length ≤ (u8s bs ++ rest).length) := hid (by
    have := HRM.out.1
    have := HLEN.out
    rw [List.length_append, u8s_len, u8s_len, be_len]; omega)
  have HMIN : Hid ((u8s (be 4 n)).length = Nat.min 4 (room - bs.length)) := hid (by
    have := HRM.out.1
    rw [u8s_len, be_len]; exact (Nat.min_eq_left (by omega)).symm)
  have H1C : Hid (∀ v ∈ u8s (be 4 n), v.oneCell' = true) := hid (by
    intro v hv
    simp only [u8s, List.mem_map] at hv
    obtain ⟨x, _, rfl⟩ := hv
    rfl)
  have HWR : Hid (IntKind.i64.wrap ((bs.length : Int) + ((u8s (be 4 n)).length : Int)) = (bs.length : Int) + 4) := hid (by
    rw [u8s_len, be_len]
    exact wrap_i64 (by omega) (by omega))
  have mf : Try.prog.follows .mixedOrders = true := by kernel_rfl
  have hre : ¬ room = bs.length := by have := HRM.out; omega
  have HHN : Hid (h ≠ a ∧ h ≠ b ∧ w.heap.size = h) := hid (by have := HA0.out; omega)
  go_cut [] from 26 to 43 (fun wx => Blk wx a [.slice (some ⟨b, 0, none⟩) room room, .int .i64 ((bs.length : Int) + 4), .int .u32 (sumB bs)] 100 ∧ Blk wx b (splice (u8s bs ++ rest) bs.length (u8s (be 4 n))) 5 ∧ Only [a, b] W1 wx)
  case first =>
    go_region_law ((refine step_copy_only rfl _ _ 56 56 rfl 5 Try.underlying56 info5 b bs.length (room - bs.length) (room - bs.length) ⟨h, 0, none⟩ 4 4 (by rfl) (by rfl) (u8s bs ++ rest) 5 HRW1.out (u8s (be 4 n)) HMIN.out HSRC.out (by rw [← u8s_len bs]; exact HFIT.out) H1C.out ?_; intro w3 hrow3 ho3; have HRW3 := hid hrow3; have HO3 : Hid (Only [b] W1 w3) := hid ⟨ho3.os, ho3.tape, ho3.output, ho3.size, ho3.block⟩; have HBK3 := hid (HO3.out.blk HBK1.out (by have := HNE.out; simp; omega)); have d1 : w3.cell? ⟨a, 1, none⟩ = some (.int .i64 bs.length) := HBK3.out.cell 1; have d0 : w3.cell? ⟨a, 0, none⟩ = some (.slice (some ⟨b, 0, none⟩) room room) := HBK3.out.cell 0; have g1 := HBK3.out.froz 1; clear hrow3 ho3))
    all_goals
      (try go_wp2_with fail)
      go_meet
      rw [HWR.out]
      exact ⟨HBK3.out.set 1 _, HRW3.out.other _ _ (by have := HNE.out; simp; omega), (HO3.out.mono (by intro k _ h; simp at h ⊢; exact .inr h)).set (p := ⟨a, 1, none⟩) (.inl (by simp)) _⟩
  case rest =>
    obtain ⟨hk1, hk2, hk3⟩ := hcut
    obtain ⟨W4, hW4⟩ : ∃ W4, wc = W4 := ⟨_, rfl⟩
    rw [hW4] at hk1 hk2 hk3 ⊢
    clear hW4 c0 c1 f1 hre l0 l1
    have HK1 := hid hk1
    have HK2 := hid hk2
    have HK3 := hid hk3
    have HS4 := hid (hk3.blk HL4.out (by have := HHN.out; simp; omega))
    clear hk1 hk2 hk3
    have HLT := hid (sumF_lt (sumB_lt bs))
    go_wp2_with fail
    go_loopw [46] (fun vi wr => ∃ j : Nat, vi = .int .i64 j ∧ j ≤ 4 ∧ Blk wr a [.slice (some ⟨b, 0, none⟩) room room, .int .i64 ((bs.length : Int) + 4), .int .u32 (sumF (sumB bs) ((be 4 n).take j))] 100 ∧ Only [a] W4 wr) (fun vi _ => 4 - (RowKit.intOf vi).toNat)
    case atStart => exact ⟨0, rfl, Nat.zero_le _, HK1.out, Only.refl _ _⟩
    case round =>
      obtain ⟨j, rfl, hj, hb, ho⟩ := hrel
      have HB := hid hb
      have HO := hid ho
      clear hb ho
      by_cases hlt : j < 4
      · obtain ⟨x, hx⟩ := some_at (xs := be 4 n) (i := j) (by rw [be_len]; exact hlt)
        have HX := hid hx
        have hx256 : x < 256 := be_lt 4 n x (List.mem_of_getElem? hx)
        have hcell : wr.cell? ⟨h, j, none⟩ = some (.int .u8 x) := by
          refine ((HO.out.blk HS4.out (by have := HHN.out; simp; omega)).cell j).trans ?_
          have : (be 4 n)[j]? = some x := hx
          unfold u8s
          rw [List.getElem?_map, this]
          rfl
        have c2 : wr.cell? ⟨a, 2, none⟩ = some (.int .u32 (sumF (sumB bs) ((be 4 n).take j))) := HB.out.cell 2
        have f2 := HB.out.froz 2
        have hji : (j : Int) < 4 := by omega
        have hj0 : (0 : Int) ≤ (j : Int) := by omega
        have HW := hid (with_any (sumF (sumB bs) ((be 4 n).take j)) x (HLT.out _) hx256)
        have HJ := hid hlt
        clear hx hx256 hlt
        go_wp2_with (go_at_call 55; refine (HW.out _).mono ?_; rintro e w' ⟨rfl, rfl⟩)
        refine ⟨⟨j + 1, by go_num, by have := HJ.out; omega, ?_, HO.out.set (p := ⟨a, 2, none⟩) (.inl (by simp)) _⟩, ?_⟩
        · have e : sumF (sumB bs) ((be 4 n).take (j + 1)) = wit (sumF (sumB bs) ((be 4 n).take j)) x := by
            rw [List.take_add_one, HX.out]
            exact sumF_snoc _ _ _
          rw [e]
          exact HB.out.set 2 _
        · have := HJ.out
          simp [RowKit.intOf]; omega
      · have hji : ¬ (j : Int) < 4 := by omega
        have hjk : j = 4 := by omega
        subst hjk
        clear hlt
        go_wp2_with fail
        go_end0
        have hbk := HB.out
        rw [List.take_of_length_le (Nat.le_of_eq (be_len _ _)), ← sumB_app] at hbk
        refine ⟨rfl, ⟨?_, rest.drop (u8s (be 4 n)).length, ?_, ?_⟩, ?_⟩
        · rw [List.length_append, be_len]
          exact hbk
        · rw [u8s_app, ← splice_end, u8s_len bs]
          exact HO.out.blk HK2.out (by have := HNE.out; simp; omega)
        · have := HLEN.out
          have := HRM.out
          rw [List.length_append, List.length_drop, u8s_len, be_len]; omega
        · exact ((Only.ofBelow HB1.out).behind (HK3.out.fresh HO.out (by simp)))
end Go.Proofs.Ytdinlaoimpoolaa
namespace Go.Proofs.Ytdinlaoimpoolaa
open Go.RowKit

theorem lay_any (p n a b room : Nat) (bs : List Nat) (w : World) (hp : p ≤ 15) (hn : n < 4294967296) (hW : Wr w a b room bs) (hroom : bs.length + sz p ≤ room) (hr : room ≤ 1000000) :
    Calls Try.prog 51 #[.pointer (some ⟨a, 0, none⟩), .int .i64 p, .int .i64 n] w fun e w' => e = .returned (.tuple #[]) ∧ Wr w' a b room (bs ++ be (sz p) n) ∧ Only [a, b] w w' := by
  have hk4 : sz p = 1 ∨ sz p = 2 ∨ sz p = 3 ∨ sz p = 4 := by
    have hc : p = 0 ∨ p = 1 ∨ p = 2 ∨ p = 3 ∨ p = 4 ∨ p = 5 ∨ p = 6 ∨ p = 7 ∨ p = 8 ∨ p = 9 ∨ p = 10 ∨ p = 11 ∨ p = 12 ∨ p = 13 ∨ p = 14 ∨ p = 15 := by omega
    rcases hc with rfl | rfl | rfl | rfl | rfl | rfl | rfl | rfl | rfl | rfl | rfl | rfl | rfl | rfl | rfl | rfl <;> decide
  rcases hk4 with e | e | e | e
  · rw [e] at hroom ⊢; exact layK1 p n a b room bs w hp e hn hW hroom hr
  · rw [e] at hroom ⊢; exact layK2 p n a b room bs w hp e hn hW hroom hr
  · rw [e] at hroom ⊢; exact layK3 p n a b room bs w hp e hn hW hroom hr
  · rw [e] at hroom ⊢; exact layK4 p n a b room bs w hp e hn hW hroom hr
end Go.Proofs.Ytdinlaoimpoolaa
