/- The law's book: heads and chars tell that two lists alike are the same, of any tokens and characters. -/
import Derived.Test.YthlbbinlkmchjaaDoorSame
import Derived.Deep.Cut
import Derived.Deep.CutRange
namespace Go.Proofs.YthlbbinlkmchjaaDoor
open Go.RowKit

/-- a token's cells, of any numbers -/
structure HT where
  kd : Int
  at_ : Int
  en : Int
  nm : ByteArray
  vl : ByteArray
  ca : Option Addr
  cn : Nat
  cc : Nat
  em : Bool
def htc (x : HT) : List Value := [.int .i64 x.kd, .int .i64 x.at_, .int .i64 x.en, .string x.nm, .string x.vl, .slice x.ca x.cn x.cc, .bool x.em]
theorem htc_len (x : HT) : (htc x).length = 7 := rfl
def cic (x : Int × Int × Int) : List Value := [.int .i64 x.1, .int .i64 x.2.1, .int .i64 x.2.2]
theorem cic_len (x : Int × Int × Int) : (cic x).length = 3 := rfl
theorem Sl.htok {W : World} {ad : Option Addr} {xs : List HT} (h : Sl W ad xs.length (xs.flatMap htc)) {i : Nat} {x : HT} (hi : xs[i]? = some x) :
    ∃ b off, ad = some ⟨b, off, none⟩ ∧ b < W.heap.size ∧ W.cell? ⟨b, off + i * 7, none⟩ = some (.int .i64 x.kd) ∧ W.cell? ⟨b, off + i * 7 + 1, none⟩ = some (.int .i64 x.at_) ∧ W.cell? ⟨b, off + i * 7 + 2, none⟩ = some (.int .i64 x.en) ∧
      W.cell? ⟨b, off + i * 7 + 3, none⟩ = some (.string x.nm) ∧ W.cell? ⟨b, off + i * 7 + 4, none⟩ = some (.string x.vl) ∧ W.cell? ⟨b, off + i * 7 + 5, none⟩ = some (.slice x.ca x.cn x.cc) ∧ W.cell? ⟨b, off + i * 7 + 6, none⟩ = some (.bool x.em) := by
  have h0 : xs.length ≠ 0 := fun e => by
    rw [List.eq_nil_of_length_eq_zero e] at hi; simp at hi
  obtain ⟨b, off, e, ha⟩ := h h0
  have f := fun c (hc : c < 7) => flat_get (enc := htc) htc_len hc hi
  exact ⟨b, off, e, ha.1, ha.2 (i * 7) _ (f 0 (by decide)), ha.2 (i * 7 + 1) _ (f 1 (by decide)), ha.2 (i * 7 + 2) _ (f 2 (by decide)), ha.2 (i * 7 + 3) _ (f 3 (by decide)), ha.2 (i * 7 + 4) _ (f 4 (by decide)), ha.2 (i * 7 + 5) _ (f 5 (by decide)), ha.2 (i * 7 + 6) _ (f 6 (by decide))⟩
theorem Sl.chari {W : World} {ad : Option Addr} {xs : List (Int × Int × Int)} (h : Sl W ad xs.length (xs.flatMap cic)) {i : Nat} {x : Int × Int × Int} (hi : xs[i]? = some x) :
    ∃ b off, ad = some ⟨b, off, none⟩ ∧ b < W.heap.size ∧ W.cell? ⟨b, off + i * 3, none⟩ = some (.int .i64 x.1) ∧ W.cell? ⟨b, off + i * 3 + 1, none⟩ = some (.int .i64 x.2.1) ∧ W.cell? ⟨b, off + i * 3 + 2, none⟩ = some (.int .i64 x.2.2) := by
  have h0 : xs.length ≠ 0 := fun e => by
    rw [List.eq_nil_of_length_eq_zero e] at hi; simp at hi
  obtain ⟨b, off, e, ha⟩ := h h0
  have f := fun c (hc : c < 3) => flat_get (enc := cic) cic_len hc hi
  exact ⟨b, off, e, ha.1, ha.2 (i * 3) _ (f 0 (by decide)), ha.2 (i * 3 + 1) _ (f 1 (by decide)), ha.2 (i * 3 + 2) _ (f 2 (by decide))⟩

set_option maxRecDepth 100000 in
set_option maxHeartbeats 8000000 in
theorem charsI_true (ys : List (Int × Int × Int)) (a1 a2 : Option Addr) (c1 c2 : Nat) (w : World) (hg : ys.length ≤ 9223372036854775807) (sa : Sl w a1 ys.length (ys.flatMap cic)) (sb : Sl w a2 ys.length (ys.flatMap cic)) :
    Calls Tryd.prog 23 #[.slice a1 ys.length c1, .slice a2 ys.length c2] w fun e w' => e = .returned (.bool true) ∧ ∃ n, w' = w.drewN n := by
  have HSA := hid (And.intro sa sb)
  obtain ⟨n, hn⟩ : ∃ n, ys.length = n := ⟨_, rfl⟩
  have HN := hid hn
  rw [hn] at hg ⊢
  clear sa sb hn
  go_enter Tryd.func23, Tryd.ntmps23
  go_wp2_with fail
  go_loopw [13] (fun vi wr => ∃ k : Nat, vi = .int .i64 k ∧ k ≤ n ∧ ∃ d, wr = w.drewN d) (fun vi _ => n - (RowKit.intOf vi).toNat)
  case atStart => exact ⟨0, rfl, by omega, 0, rfl⟩
  case round =>
    obtain ⟨k, rfl, hk, d, rfl⟩ := hrel
    by_cases hlt : k < n
    · obtain ⟨x, hgk⟩ := some_at (xs := ys) (i := k) (by rw [HN.out]; exact hlt)
      obtain ⟨b, off, rfl, hbl, e0, e1, e2⟩ := HSA.out.1.chari hgk
      obtain ⟨b', off', rfl, hbl', f0, f1, f2⟩ := HSA.out.2.chari hgk
      have hkl : (k : Int) < (n : Int) := by omega
      have hk0 : (0 : Int) ≤ (k : Int) := by omega
      have hq := neqC x.1 x.2.1 x.2.2
      have hgd := guard50
      have HLT := hid hlt
      clear hbl hbl' hgk hlt
      go_wp2_with fail
      go_quiet (fail)
      go_wp2
      go_roundw
      case rel => exact ⟨k + 1, by go_num, HLT.out, _, rfl⟩
      case measure => have := HLT.out; simp [RowKit.intOf]; omega
    · have hkl : ¬ (k : Int) < (n : Int) := by omega
      clear hlt
      go_wp2_with fail
      go_ret
      exact ⟨rfl, _, rfl⟩

set_option maxRecDepth 100000 in
set_option maxHeartbeats 8000000 in
theorem heads_true (xs : List HT) (a1 a2 : Option Addr) (c1 c2 : Nat) (w : World) (hg : xs.length ≤ 9223372036854775807) (sa : Sl w a1 xs.length (xs.flatMap htc)) (sb : Sl w a2 xs.length (xs.flatMap htc)) :
    Calls Tryd.prog 59 #[.slice a1 xs.length c1, .slice a2 xs.length c2] w fun e w' => e = .returned (.bool true) ∧ Only [] w w' := by
  have HS1 := hid sa
  have HS2 := hid sb
  obtain ⟨n, hn⟩ : ∃ n, xs.length = n := ⟨_, rfl⟩
  have HN := hid hn
  rw [hn] at hg ⊢
  clear sa sb hn
  go_enter Tryd.func59, Tryd.ntmps59
  go_wp2_with fail
  go_loopw [15] (fun vi wr => ∃ k : Nat, vi = .int .i64 k ∧ k ≤ n ∧ Only [] w wr) (fun vi _ => n - (RowKit.intOf vi).toNat)
  case atStart => exact ⟨0, rfl, by omega, Only.refl _ _⟩
  case round =>
    obtain ⟨k, rfl, hk, ho⟩ := hrel
    have HOK := hid ho
    clear ho
    by_cases hlt : k < n
    · obtain ⟨x, hxk⟩ := some_at (xs := xs) (i := k) (by rw [HN.out]; exact hlt)
      obtain ⟨b, off, rfl, hbl, e0, e1, e2, e3, e4, e5, e6⟩ := (HS1.out.only HOK.out).htok hxk
      obtain ⟨b', off', rfl, hbl', f0, f1, f2, f3, f4, f5, f6⟩ := (HS2.out.only HOK.out).htok hxk
      have hkl : (k : Int) < (n : Int) := by omega
      have hk0 : (0 : Int) ≤ (k : Int) := by omega
      have HLT := hid hlt
      obtain ⟨kd, at_, en, nm, vl, ca, cn, cc, em⟩ := x
      simp only at *
      have hlI : ¬ b = wr.heap.size := by omega
      have hlI' : ¬ b' = wr.heap.size := by omega
      clear hxk hlt
      go_wp2_with fail
      go_region
      all_goals
        go_wp2_with fail
        go_roundw
        case rel => exact ⟨k + 1, by go_num, HLT.out, ((HOK.out.alloc _).alloc _).drewN 1⟩
        case measure => have := HLT.out; simp [RowKit.intOf]; omega
    · have hkl : ¬ (k : Int) < (n : Int) := by omega
      clear hlt
      go_wp2_with fail
      go_ret
      exact ⟨rfl, HOK.out⟩
end Go.Proofs.YthlbbinlkmchjaaDoor
namespace Go.Proofs.YthlbbinlkmchjaaDoor
open Go.RowKit

/-- block b is of type t -/
def Ty (W : World) (b : Nat) (t : TypeId) : Prop := ∃ cur : Array Value, W.heap[b]? = some (.cells cur t (0, 0))
theorem Ty.lt {W : World} {b : Nat} {t : TypeId} (h : Ty W b t) : b < W.heap.size := by
  obtain ⟨cur, h⟩ := h
  rcases Nat.lt_or_ge b W.heap.size with g | g
  · exact g
  · rw [Array.getElem?_eq_none g] at h; cases h
theorem Ty.ne {W : World} {b : Nat} {t u : TypeId} (h : Ty W b t) (hne : t ≠ u) : ¬ Ty W b u := by
  obtain ⟨cur, h⟩ := h
  rintro ⟨cur', h'⟩
  rw [h] at h'
  simp at h'
  exact hne h'.2
theorem Ty.keep {L : List Nat} {W W' : World} {b : Nat} {t : TypeId} (h : Ty W b t) (k : Only L W W') (hn : b ∉ L) : Ty W' b t := by
  obtain ⟨cur, g⟩ := h
  exact ⟨cur, (k.block b (Ty.lt ⟨cur, g⟩) hn).trans g⟩
theorem Ty.row {w : World} {B n size : Nat} {e : TypeId} {v : Value} {xs : List Value} (h : w.ownsRow B e size v n xs) {b : Nat} (hb : v.ownBlock = some b) : Ty w b e := row_block h hb
theorem Ty.blk {w : World} {b : Nat} {xs : List Value} {t : TypeId} (h : Blk w b xs t) : Ty w b t := ⟨_, h⟩

/-- a list that was handed out and what it must read as: n elements, these cells -/
structure En where
  v : Value
  u : Value
  n : Nat
  cs : List Value
def BS (e : En) (b : Nat) : Prop := e.v.ownBlock = some b ∨ e.u.ownBlock = some b
/-- both read so -/
def Rd (W : World) (e : En) : Prop := (∃ ad cap, e.v = .slice ad e.n cap ∧ Sl W ad e.n e.cs) ∧ ∃ ad cap, e.u = .slice ad e.n cap ∧ Sl W ad e.n e.cs
theorem Rd.keep {L : List Nat} {W W' : World} {e : En} (h : Rd W e) (k : Only L W W') (hn : ∀ b, BS e b → b ∉ L) : Rd W' e := by
  obtain ⟨⟨a, c, e1, s1⟩, a', c', e2, s2⟩ := h
  refine ⟨⟨a, c, e1, s1.keep k (fun b off ea => hn b (.inl ?_))⟩, a', c', e2, s2.keep k (fun b off ea => hn b (.inr ?_))⟩
  · rw [e1, ea]; rfl
  · rw [e2, ea]; rfl
theorem Rd.of {W : World} {B B' t k : Nat} {e : En} (h1 : W.ownsRow B t k e.v e.n e.cs) (h2 : W.ownsRow B' t k e.u e.n e.cs) : Rd W e := by
  obtain ⟨a, c, e1, s1, _⟩ := row_reads h1
  obtain ⟨a', c', e2, s2, _⟩ := row_reads h2
  exact ⟨⟨a, c, e1, s1⟩, a', c', e2, s2⟩

/-- some lists of elements of type t, of k cells each; those from f on, below n, are whole blocks of their own -/
structure Ents (W : World) (B t k : Nat) (P : Nat → List Value → Prop) (es : List En) (f n : Nat) : Prop where
  rd : ∀ e ∈ es, Rd W e
  sh : ∀ e ∈ es, P e.n e.cs
  bs : ∀ e ∈ es, ∀ b, BS e b → B ≤ b ∧ Ty W b t
  ow : ∀ i e, es[i]? = some e → f ≤ i → i < n → W.ownsRow B t k e.v e.n e.cs ∧ W.ownsRow B t k e.u e.n e.cs ∧ ∀ b, e.v.ownBlock = some b → e.u.ownBlock ≠ some b
  sp : ∀ i j e e' b, es[i]? = some e → f ≤ i → i < n → es[j]? = some e' → i ≠ j → BS e b → ¬ BS e' b
theorem Ents.keep {W W' : World} {B t k : Nat} {P : Nat → List Value → Prop} {es : List En} {f n : Nat} (h : Ents W B t k P es f n) {L : List Nat} (ho : Only L W W') (hL : ∀ b ∈ L, ¬ Ty W b t) : Ents W' B t k P es f n := by
  have g : ∀ e ∈ es, ∀ b, BS e b → b ∉ L := fun e he b hb hm => hL b hm (h.bs e he b hb).2
  refine ⟨fun e he => (h.rd e he).keep ho (g e he), h.sh, fun e he b hb => ⟨(h.bs e he b hb).1, (h.bs e he b hb).2.keep ho (g e he b hb)⟩, fun i e hi h1 h2 => ?_, h.sp⟩
  obtain ⟨o1, o2, o3⟩ := h.ow i e hi h1 h2
  have he := List.mem_of_getElem? hi
  exact ⟨row_only o1 ho (fun b hb => g e he b (.inl hb)), row_only o2 ho (fun b hb => g e he b (.inr hb)), o3⟩
/-- nothing is one's own any more -/
theorem Ents.shut {W : World} {B t k : Nat} {P : Nat → List Value → Prop} {es : List En} {f n : Nat} (h : Ents W B t k P es f n) {f' n' : Nat} (hf : f ≤ f') (hn : n' ≤ n) : Ents W B t k P es f' n' :=
  ⟨h.rd, h.sh, h.bs, fun i e hi h1 h2 => h.ow i e hi (by omega) (by omega), fun i j e e' b hi h1 h2 => h.sp i j e e' b hi (by omega) (by omega)⟩
/-- one list more, a block of its own -/
theorem Ents.push {W : World} {B t k : Nat} {P : Nat → List Value → Prop} {es : List En} {f : Nat} (h : Ents W B t k P es f es.length) {x : En} (h1 : W.ownsRow B t k x.v x.n x.cs) (h2 : W.ownsRow B t k x.u x.n x.cs) (h3 : ∀ b, x.v.ownBlock = some b → x.u.ownBlock ≠ some b)
    (hP : P x.n x.cs) (hs : ∀ e ∈ es, ∀ b, BS e b → ¬ BS x b) : Ents W B t k P (es ++ [x]) f (es.length + 1) := by
  have hx : ∀ b, BS x b → B ≤ b ∧ Ty W b t := fun b hb => by
    rcases hb with hb | hb
    · exact ⟨(row_ge h1 b hb).1, Ty.row h1 hb⟩
    · exact ⟨(row_ge h2 b hb).1, Ty.row h2 hb⟩
  have hget : ∀ {i : Nat} {e : En}, (es ++ [x])[i]? = some e → (i < es.length ∧ es[i]? = some e) ∨ (i = es.length ∧ e = x) := fun {i e} hi => by
    rcases Nat.lt_or_ge i es.length with g | g
    · rw [List.getElem?_append_left g] at hi; exact .inl ⟨g, hi⟩
    · rw [List.getElem?_append_right g] at hi
      have h0 : i - es.length = 0 := by
        rcases Nat.eq_zero_or_pos (i - es.length) with q | q
        · exact q
        · rw [List.getElem?_eq_none (by simp; omega)] at hi; cases hi
      rw [h0] at hi
      exact .inr ⟨by omega, (Option.some.inj hi).symm⟩
  refine ⟨fun e he => ?_, fun e he => ?_, fun e he => ?_, fun i e hi hf hn => ?_, fun i j e e' b hi hf hn hj hij hb => ?_⟩
  · rcases List.mem_append.1 he with he | he
    · exact h.rd e he
    · rw [List.mem_singleton.1 he]; exact Rd.of h1 h2
  · rcases List.mem_append.1 he with he | he
    · exact h.sh e he
    · rw [List.mem_singleton.1 he]; exact hP
  · rcases List.mem_append.1 he with he | he
    · exact h.bs e he
    · rw [List.mem_singleton.1 he]; exact hx
  · rcases hget hi with ⟨g, hi2⟩ | ⟨_, h4⟩
    · exact h.ow i e hi2 hf g
    · rw [h4]; exact ⟨h1, h2, h3⟩
  · rcases hget hi with ⟨g, hi2⟩ | ⟨g, h4⟩
    · rcases hget hj with ⟨g', hj2⟩ | ⟨g', h5⟩
      · exact h.sp i j e e' b hi2 hf g hj2 hij hb
      · rw [h5]; exact hs e (List.mem_of_getElem? hi2) b hb
    · rw [h4] at hb
      rcases hget hj with ⟨g', hj2⟩ | ⟨g', h5⟩
      · exact fun hb' => hs e' (List.mem_of_getElem? hj2) b hb' hb
      · omega

/-- the book's own block, and its four rows -/
structure Bk (W : World) (hb B : Nat) (vo vw vr vq : Value) (lo lw lr lq : List Value) (fw gw : Nat) : Prop where
  c : Blk W hb [vo, vw, vr, vq, .int .i64 fw, .int .i64 gw] 27
  bb : B ≤ hb
  ro : W.ownsRow B 32 1 vo lo.length lo
  rw_ : W.ownsRow B 32 1 vw lw.length lw
  rr : W.ownsRow B 44 1 vr lr.length lr
  rq : W.ownsRow B 44 1 vq lq.length lq
  a1 : ∀ b, vo.ownBlock = some b → vw.ownBlock ≠ some b
  a2 : ∀ b, vr.ownBlock = some b → vq.ownBlock ≠ some b
theorem Bk.keep {W W' : World} {hb B : Nat} {vo vw vr vq : Value} {lo lw lr lq : List Value} {fw gw : Nat} (h : Bk W hb B vo vw vr vq lo lw lr lq fw gw) {L : List Nat} (k : Only L W W') (hL : ∀ b ∈ L, ¬ Ty W b 27 ∧ ¬ Ty W b 32 ∧ ¬ Ty W b 44) : Bk W' hb B vo vw vr vq lo lw lr lq fw gw :=
  ⟨k.blk h.c (fun hm => (hL _ hm).1 (Ty.blk h.c)), h.bb, row_only h.ro k (fun b hb hm => (hL b hm).2.1 (Ty.row h.ro hb)), row_only h.rw_ k (fun b hb hm => (hL b hm).2.1 (Ty.row h.rw_ hb)),
    row_only h.rr k (fun b hb hm => (hL b hm).2.2 (Ty.row h.rr hb)), row_only h.rq k (fun b hb hm => (hL b hm).2.2 (Ty.row h.rq hb)), h.a1, h.a2⟩
theorem Bk.still {W W' : World} {hb B : Nat} {vo vw vr vq : Value} {lo lw lr lq : List Value} {fw gw : Nat} (h : Bk W hb B vo vw vr vq lo lw lr lq fw gw) (k : Only [] W W') : Bk W' hb B vo vw vr vq lo lw lr lq fw gw := h.keep k (by simp)
/-- where a row has grown to lies in its own block or in a new one -/
theorem Grew.ob {w w' : World} {v v' : Value} (h : Grew w w' v v') : ∀ b, v'.ownBlock = some b → v.ownBlock = some b ∨ b = w.heap.size := fun b hb => by
  rcases h with ⟨e, _⟩ | ⟨e, _⟩
  · exact .inl (e ▸ hb)
  · rw [e] at hb; exact .inr (Option.some.inj hb).symm
theorem set_hb (W : World) (b i : Nat) (v : Value) : Only [b] W (W.setCell ⟨b, i, none⟩ v) := (Only.refl [b] W).set (p := ⟨b, i, none⟩) (.inl (by simp)) v
/-- a list more in the first row -/
theorem Bk.grow0 {W W' : World} {hb B : Nat} {vo vw vr vq v' x : Value} {lo lw lr lq : List Value} {fw gw : Nat} (h : Bk W hb B vo vw vr vq lo lw lr lq fw gw) (hr : W'.ownsRow B 32 1 v' (lo.length + 1) (lo ++ [x])) (g : Grew W W' vo v') :
    Bk (W'.setCell ⟨hb, 0, none⟩ v') hb B v' vw vr vq (lo ++ [x]) lw lr lq fw gw ∧ Only (hb :: ob vo) W (W'.setCell ⟨hb, 0, none⟩ v') := by
  have k := only_grown g.grown
  have hc : Blk W' hb [vo, vw, vr, vq, .int .i64 fw, .int .i64 gw] 27 := k.blk h.c (fun hm => row_not h.ro h.c (by decide) (mem_ob.1 hm))
  have hs := set_hb W' hb 0 v'
  have keep : ∀ {t : TypeId} {v : Value} {xs : List Value}, W.ownsRow B t 1 v xs.length xs → t ≠ 27 → (∀ b, vo.ownBlock = some b → v.ownBlock ≠ some b) → (W'.setCell ⟨hb, 0, none⟩ v').ownsRow B t 1 v xs.length xs := fun h1 ht h2 => by
    have h3 := row_only h1 k (fun b hb' hm => h2 b (mem_ob.1 hm) hb')
    exact row_only h3 hs (fun b hb' hm => by simp at hm; subst hm; exact row_not h3 hc ht hb')
  refine ⟨⟨hc.set 0 v', h.bb, ?_, keep h.rw_ (by decide) h.a1, keep h.rr (by decide) (fun b h1 h2 => row_row h.ro h.rr (by decide) h1 h2), keep h.rq (by decide) (fun b h1 h2 => row_row h.ro h.rq (by decide) h1 h2), ?_, h.a2⟩, ?_⟩
  · rw [List.length_append]
    exact row_only hr hs (fun b hb' hm => by simp at hm; subst hm; exact row_not hr hc (by decide) hb')
  · intro b h1 h2
    rcases g.ob b h1 with h3 | h3
    · exact h.a1 b h3 h2
    · have := (row_ge h.rw_ b h2).2; omega
  · exact (k.mono (fun _ _ hm => by simp [hm])).trans (hs.mono (fun _ _ hm => by simp at hm; simp [hm]))
theorem Bk.grow1 {W W' : World} {hb B : Nat} {vo vw vr vq v' x : Value} {lo lw lr lq : List Value} {fw gw : Nat} (h : Bk W hb B vo vw vr vq lo lw lr lq fw gw) (hr : W'.ownsRow B 32 1 v' (lw.length + 1) (lw ++ [x])) (g : Grew W W' vw v') :
    Bk (W'.setCell ⟨hb, 1, none⟩ v') hb B vo v' vr vq lo (lw ++ [x]) lr lq fw gw ∧ Only (hb :: ob vw) W (W'.setCell ⟨hb, 1, none⟩ v') := by
  have k := only_grown g.grown
  have hc : Blk W' hb [vo, vw, vr, vq, .int .i64 fw, .int .i64 gw] 27 := k.blk h.c (fun hm => row_not h.rw_ h.c (by decide) (mem_ob.1 hm))
  have hs := set_hb W' hb 1 v'
  have keep : ∀ {t : TypeId} {v : Value} {xs : List Value}, W.ownsRow B t 1 v xs.length xs → t ≠ 27 → (∀ b, vw.ownBlock = some b → v.ownBlock ≠ some b) → (W'.setCell ⟨hb, 1, none⟩ v').ownsRow B t 1 v xs.length xs := fun h1 ht h2 => by
    have h3 := row_only h1 k (fun b hb' hm => h2 b (mem_ob.1 hm) hb')
    exact row_only h3 hs (fun b hb' hm => by simp at hm; subst hm; exact row_not h3 hc ht hb')
  refine ⟨⟨hc.set 1 v', h.bb, keep h.ro (by decide) (fun b h1 h2 => h.a1 b h2 h1), ?_, keep h.rr (by decide) (fun b h1 h2 => row_row h.rw_ h.rr (by decide) h1 h2), keep h.rq (by decide) (fun b h1 h2 => row_row h.rw_ h.rq (by decide) h1 h2), ?_, h.a2⟩, ?_⟩
  · rw [List.length_append]
    exact row_only hr hs (fun b hb' hm => by simp at hm; subst hm; exact row_not hr hc (by decide) hb')
  · intro b h1 h2
    rcases g.ob b h2 with h3 | h3
    · exact h.a1 b h1 h3
    · have := (row_ge h.ro b h1).2; omega
  · exact (k.mono (fun _ _ hm => by simp [hm])).trans (hs.mono (fun _ _ hm => by simp at hm; simp [hm]))
theorem Bk.grow2 {W W' : World} {hb B : Nat} {vo vw vr vq v' x : Value} {lo lw lr lq : List Value} {fw gw : Nat} (h : Bk W hb B vo vw vr vq lo lw lr lq fw gw) (hr : W'.ownsRow B 44 1 v' (lr.length + 1) (lr ++ [x])) (g : Grew W W' vr v') :
    Bk (W'.setCell ⟨hb, 2, none⟩ v') hb B vo vw v' vq lo lw (lr ++ [x]) lq fw gw ∧ Only (hb :: ob vr) W (W'.setCell ⟨hb, 2, none⟩ v') := by
  have k := only_grown g.grown
  have hc : Blk W' hb [vo, vw, vr, vq, .int .i64 fw, .int .i64 gw] 27 := k.blk h.c (fun hm => row_not h.rr h.c (by decide) (mem_ob.1 hm))
  have hs := set_hb W' hb 2 v'
  have keep : ∀ {t : TypeId} {v : Value} {xs : List Value}, W.ownsRow B t 1 v xs.length xs → t ≠ 27 → (∀ b, vr.ownBlock = some b → v.ownBlock ≠ some b) → (W'.setCell ⟨hb, 2, none⟩ v').ownsRow B t 1 v xs.length xs := fun h1 ht h2 => by
    have h3 := row_only h1 k (fun b hb' hm => h2 b (mem_ob.1 hm) hb')
    exact row_only h3 hs (fun b hb' hm => by simp at hm; subst hm; exact row_not h3 hc ht hb')
  refine ⟨⟨hc.set 2 v', h.bb, keep h.ro (by decide) (fun b h1 h2 => row_row h.ro h.rr (by decide) h2 h1), keep h.rw_ (by decide) (fun b h1 h2 => row_row h.rw_ h.rr (by decide) h2 h1), ?_, keep h.rq (by decide) h.a2, h.a1, ?_⟩, ?_⟩
  · rw [List.length_append]
    exact row_only hr hs (fun b hb' hm => by simp at hm; subst hm; exact row_not hr hc (by decide) hb')
  · intro b h1 h2
    rcases g.ob b h1 with h3 | h3
    · exact h.a2 b h3 h2
    · have := (row_ge h.rq b h2).2; omega
  · exact (k.mono (fun _ _ hm => by simp [hm])).trans (hs.mono (fun _ _ hm => by simp at hm; simp [hm]))
theorem Bk.grow3 {W W' : World} {hb B : Nat} {vo vw vr vq v' x : Value} {lo lw lr lq : List Value} {fw gw : Nat} (h : Bk W hb B vo vw vr vq lo lw lr lq fw gw) (hr : W'.ownsRow B 44 1 v' (lq.length + 1) (lq ++ [x])) (g : Grew W W' vq v') :
    Bk (W'.setCell ⟨hb, 3, none⟩ v') hb B vo vw vr v' lo lw lr (lq ++ [x]) fw gw ∧ Only (hb :: ob vq) W (W'.setCell ⟨hb, 3, none⟩ v') := by
  have k := only_grown g.grown
  have hc : Blk W' hb [vo, vw, vr, vq, .int .i64 fw, .int .i64 gw] 27 := k.blk h.c (fun hm => row_not h.rq h.c (by decide) (mem_ob.1 hm))
  have hs := set_hb W' hb 3 v'
  have keep : ∀ {t : TypeId} {v : Value} {xs : List Value}, W.ownsRow B t 1 v xs.length xs → t ≠ 27 → (∀ b, vq.ownBlock = some b → v.ownBlock ≠ some b) → (W'.setCell ⟨hb, 3, none⟩ v').ownsRow B t 1 v xs.length xs := fun h1 ht h2 => by
    have h3 := row_only h1 k (fun b hb' hm => h2 b (mem_ob.1 hm) hb')
    exact row_only h3 hs (fun b hb' hm => by simp at hm; subst hm; exact row_not h3 hc ht hb')
  refine ⟨⟨hc.set 3 v', h.bb, keep h.ro (by decide) (fun b h1 h2 => row_row h.ro h.rq (by decide) h2 h1), keep h.rw_ (by decide) (fun b h1 h2 => row_row h.rw_ h.rq (by decide) h2 h1), keep h.rr (by decide) (fun b h1 h2 => h.a2 b h2 h1), ?_, h.a1, ?_⟩, ?_⟩
  · rw [List.length_append]
    exact row_only hr hs (fun b hb' hm => by simp at hm; subst hm; exact row_not hr hc (by decide) hb')
  · intro b h1 h2
    rcases g.ob b h2 with h3 | h3
    · exact h.a2 b h1 h3
    · have := (row_ge h.rr b h1).2; omega
  · exact (k.mono (fun _ _ hm => by simp [hm])).trans (hs.mono (fun _ _ hm => by simp at hm; simp [hm]))
/-- the types of a book's blocks -/
theorem Bk.ty {W : World} {hb B : Nat} {vo vw vr vq : Value} {lo lw lr lq : List Value} {fw gw : Nat} (h : Bk W hb B vo vw vr vq lo lw lr lq fw gw) : Ty W hb 27 ∧ (∀ b ∈ ob vo, Ty W b 32) ∧ (∀ b ∈ ob vw, Ty W b 32) ∧ (∀ b ∈ ob vr, Ty W b 44) ∧ (∀ b ∈ ob vq, Ty W b 44) :=
  ⟨Ty.blk h.c, fun _ hm => Ty.row h.ro (mem_ob.1 hm), fun _ hm => Ty.row h.rw_ (mem_ob.1 hm), fun _ hm => Ty.row h.rr (mem_ob.1 hm), fun _ hm => Ty.row h.rq (mem_ob.1 hm)⟩
end Go.Proofs.YthlbbinlkmchjaaDoor
namespace Go.Proofs.YthlbbinlkmchjaaDoor
open Go.RowKit

/-- all else stays: of old blocks those of these types alone are turned, and none below B -/
structure FrT (ts : List TypeId) (B : Nat) (W W' : World) : Prop where
  lo : Below B W W'
  ty : ∀ b, b < W.heap.size → (∀ t ∈ ts, ¬ Ty W b t) → W'.heap[b]? = W.heap[b]?
theorem FrT.refl (ts : List TypeId) (B : Nat) (W : World) : FrT ts B W W := ⟨Below.refl _ _, fun _ _ _ => rfl⟩
theorem FrT.trans {ts : List TypeId} {B : Nat} {a b c : World} (h : FrT ts B a b) (k : FrT ts B b c) : FrT ts B a c :=
  ⟨h.lo.trans k.lo, fun i hi hn => by
    have h1 := h.ty i hi hn
    exact (k.ty i (Nat.lt_of_lt_of_le hi h.lo.size) (fun t ht ⟨u, e⟩ => hn t ht ⟨u, h1 ▸ e⟩)).trans h1⟩
theorem FrT.mono {ts us : List TypeId} {B : Nat} {a b : World} (h : FrT ts B a b) (hs : ∀ t ∈ ts, t ∈ us) : FrT us B a b := ⟨h.lo, fun i hi hn => h.ty i hi (fun t ht => hn t (hs t ht))⟩
theorem FrT.of {ts : List TypeId} {B : Nat} {L : List Nat} {W W' : World} (k : Only L W W') (hB : B ≤ W.heap.size) (hL : ∀ b ∈ L, B ≤ b ∧ (b < W.heap.size → ∃ t ∈ ts, Ty W b t)) : FrT ts B W W' :=
  ⟨k.toBelow hB (fun b hb => (hL b hb).1), fun b hb hn => k.block b hb (fun hm => by
    obtain ⟨t, ht, hty⟩ := (hL b hm).2 hb
    exact hn t ht hty)⟩
theorem FrT.only {ts : List TypeId} {B : Nat} {W W' : World} (k : Only [] W W') (hB : B ≤ W.heap.size) : FrT ts B W W' := FrT.of k hB (by simp)
theorem FrT.blk {ts : List TypeId} {B : Nat} {W W' : World} (h : FrT ts B W W') {b : Nat} {xs : List Value} {t : TypeId} (k : Blk W b xs t) (ht : t ∉ ts) : Blk W' b xs t :=
  (h.ty b k.lt (fun _ hu => (Ty.blk k).ne (fun e => ht (e ▸ hu)))).trans k
theorem FrT.row {ts : List TypeId} {B B' : Nat} {W W' : World} (h : FrT ts B W W') {n size : Nat} {e : TypeId} {v : Value} {xs : List Value} (k : W.ownsRow B' e size v n xs) (ht : e ∉ ts) : W'.ownsRow B' e size v n xs := by
  refine ⟨k.1, ?_⟩
  rcases k.2 with h2 | ⟨g, cap, cur, rfl, hb, hh, h3, h4, h5, h6⟩
  · exact .inl h2
  · have hty : Ty W g e := ⟨cur, hh⟩
    exact .inr ⟨g, cap, cur, rfl, hb, (h.ty g hty.lt (fun u hu => hty.ne (fun q => ht (q ▸ hu)))).trans hh, h3, h4, h5, h6⟩
theorem FrT.tl {ts : List TypeId} {B B' : Nat} {W W' : World} (h : FrT ts B W W') {tv : Value} {xs : List (Tk × Tm)} (k : TL W B' tv xs) (h1 : 48 ∉ ts) (h2 : 50 ∉ ts) : TL W' B' tv xs :=
  ⟨h.row k.row h1, fun x hx => ⟨(k.rel x hx).nm, (k.rel x hx).vl, h.row (k.rel x hx).ch h2⟩, k.ap⟩
theorem FrT.toOnly {ts : List TypeId} {B : Nat} {W W' : World} (h : FrT ts B W W') : ∃ L, Only L W W' ∧ ∀ b ∈ L, ∃ t ∈ ts, Ty W b t := by
  classical
  refine ⟨(List.range W.heap.size).filter (fun b => decide (∃ t ∈ ts, Ty W b t)), ⟨h.lo.os, h.lo.tape, h.lo.output, h.lo.size, fun b hb hn => h.ty b hb (fun t ht hty => hn ?_)⟩, fun b hb => ?_⟩
  · exact List.mem_filter.2 ⟨List.mem_range.2 hb, decide_eq_true ⟨t, ht, hty⟩⟩
  · exact of_decide_eq_true (List.mem_filter.1 hb).2
theorem Ents.fr {ts : List TypeId} {B0 : Nat} {W W' : World} {B t k : Nat} {P : Nat → List Value → Prop} {es : List En} {f n : Nat} (h : Ents W B t k P es f n) (hf : FrT ts B0 W W') (ht : t ∉ ts) : Ents W' B t k P es f n := by
  obtain ⟨L, hL, hT⟩ := hf.toOnly
  exact h.keep hL (fun b hb hty => by
    obtain ⟨u, hu, hbu⟩ := hT b hb
    exact hbu.ne (fun (e : u = t) => ht (e ▸ hu)) hty)
theorem row_sl {W : World} {B e size n c : Nat} {ad : Option Addr} {xs : List Value} (h : W.ownsRow B e size (.slice ad n c) n xs) : Sl W ad n xs := by
  obtain ⟨ad', c', e1, h2, _⟩ := row_reads h
  injection e1 with e1
  rw [e1]; exact h2
/-- tokens, and characters, of any numbers -/
def PTk (n : Nat) (cs : List Value) : Prop := ∃ hs : List HT, n = hs.length ∧ cs = hs.flatMap htc ∧ n ≤ 8589934592
def PCh (n : Nat) (cs : List Value) : Prop := ∃ rs : List (Int × Int × Int), n = rs.length ∧ cs = rs.flatMap cic ∧ n ≤ 8589934592
theorem info32 : (Tryd.prog.info? 32).map (fun i => (i.zero, i.size, i.bytes)) = some (some (.slice none 0 0), 1, 24) := by kernel_rfl
theorem info44 : (Tryd.prog.info? 44).map (fun i => (i.zero, i.size, i.bytes)) = some (some (.slice none 0 0), 1, 24) := by kernel_rfl
theorem oneSl (x : Value) (ad : Option Addr) (n c : Nat) (h : x = .slice ad n c) : ∀ u ∈ ([x] : List Value), u.oneCell' = true := by
  intro u hu
  rw [List.mem_singleton] at hu
  subst hu; subst h; rfl
theorem htc_one (hs : List HT) : ∀ u ∈ hs.flatMap htc, u.oneCell' = true := by
  intro u hu
  obtain ⟨x, _, hx⟩ := List.mem_flatMap.1 hu
  simp only [htc, List.mem_cons, List.not_mem_nil, or_false] at hx
  rcases hx with rfl | rfl | rfl | rfl | rfl | rfl | rfl <;> rfl
theorem cic_one (rs : List (Int × Int × Int)) : ∀ u ∈ rs.flatMap cic, u.oneCell' = true := by
  intro u hu
  obtain ⟨x, _, hx⟩ := List.mem_flatMap.1 hu
  simp only [cic, List.mem_cons, List.not_mem_nil, or_false] at hx
  rcases hx with rfl | rfl | rfl <;> rfl
/-- the tokens of a list that was handed out -/
theorem TL.hts {W : World} {B : Nat} {tv : Value} {xs : List (Tk × Tm)} (h : TL W B tv xs) : ∃ hs : List HT, hs.length = xs.length ∧ xs.flatMap tmc = hs.flatMap htc ∧ ∀ (i : Nat) (x : Tk × Tm), xs[i]? = some x → ∃ y : HT, hs[i]? = some y ∧ x.2.cv = Value.slice y.ca y.cn y.cc := by
  have hrel := h.rel
  clear h
  induction xs with
  | nil => exact ⟨[], rfl, rfl, fun i x hi => by simp at hi⟩
  | cons x xs ih =>
    obtain ⟨hs, h1, h2, h3⟩ := ih (fun y hy => hrel y (by simp [hy]))
    obtain ⟨ad, cap, e, _⟩ := row_reads (hrel x (by simp)).ch
    refine ⟨⟨x.1.kd, x.1.at_, x.1.en, x.2.nm, x.2.vl, ad, x.1.ch.length, cap, x.1.em⟩ :: hs, by simp [h1], ?_, fun i z hi => ?_⟩
    · rw [List.flatMap_cons, List.flatMap_cons, h2]
      congr 1
      unfold tmc htc tkc
      rw [e]
    · rcases i with _ | i
      · simp at hi; subst hi; exact ⟨_, rfl, e⟩
      · exact h3 i z (by simpa using hi)

/-- the book's block behind a row's growth -/
theorem Bk.blk0 {W W' : World} {hb B : Nat} {vo vw vr vq v' : Value} {lo lw lr lq : List Value} {fw gw : Nat} (h : Bk W hb B vo vw vr vq lo lw lr lq fw gw) (g : Grew W W' vo v') : Blk W' hb [vo, vw, vr, vq, .int .i64 fw, .int .i64 gw] 27 :=
  (only_grown g.grown).blk h.c (fun hm => row_not h.ro h.c (by decide) (mem_ob.1 hm))
theorem Bk.blk1 {W W' : World} {hb B : Nat} {vo vw vr vq v' : Value} {lo lw lr lq : List Value} {fw gw : Nat} (h : Bk W hb B vo vw vr vq lo lw lr lq fw gw) (g : Grew W W' vw v') : Blk W' hb [vo, vw, vr, vq, .int .i64 fw, .int .i64 gw] 27 :=
  (only_grown g.grown).blk h.c (fun hm => row_not h.rw_ h.c (by decide) (mem_ob.1 hm))
theorem Bk.blk2 {W W' : World} {hb B : Nat} {vo vw vr vq v' : Value} {lo lw lr lq : List Value} {fw gw : Nat} (h : Bk W hb B vo vw vr vq lo lw lr lq fw gw) (g : Grew W W' vr v') : Blk W' hb [vo, vw, vr, vq, .int .i64 fw, .int .i64 gw] 27 :=
  (only_grown g.grown).blk h.c (fun hm => row_not h.rr h.c (by decide) (mem_ob.1 hm))
theorem Bk.blk3 {W W' : World} {hb B : Nat} {vo vw vr vq v' : Value} {lo lw lr lq : List Value} {fw gw : Nat} (h : Bk W hb B vo vw vr vq lo lw lr lq fw gw) (g : Grew W W' vq v') : Blk W' hb [vo, vw, vr, vq, .int .i64 fw, .int .i64 gw] 27 :=
  (only_grown g.grown).blk h.c (fun hm => row_not h.rq h.c (by decide) (mem_ob.1 hm))

theorem alloc_still (w : World) (o : Obj) : Only [] w (w.alloc o) := (Only.refl [] w).alloc o
/-- a copy is a block of its own -/
theorem Grew.fresh {w w' : World} {v' : Value} (h : Grew w w' (.slice none 0 0) v') : Only [] w w' ∧ ∀ b, v'.ownBlock = some b → b = w.heap.size :=
  ⟨(only_grown h.grown).mono (fun _ _ hm => by have := mem_ob.1 hm; cases this), fun b hb => by
    rcases h.ob b hb with g | g
    · cases g
    · exact g⟩
theorem cbs_ne : ∀ {xs : List (Tk × Tm)} {i j : Nat} {x y : Tk × Tm} {b : Nat}, (cbs xs).Nodup → xs[i]? = some x → xs[j]? = some y → i < j → x.2.cv.ownBlock = some b → y.2.cv.ownBlock ≠ some b
  | [], i, j, x, y, b, _, hi, _, _, _ => by simp at hi
  | z :: zs, i, 0, x, y, b, _, _, _, hij, _ => by omega
  | z :: zs, 0, j + 1, x, y, b, hn, hi, hj, _, hb => by
    simp at hi hj
    subst hi
    intro hb'
    have h1 : cbs (z :: zs) = b :: cbs zs := by unfold cbs; rw [List.filterMap_cons, hb]
    rw [h1, List.nodup_cons] at hn
    exact hn.1 (mem_cbs.2 ⟨y, List.mem_of_getElem? hj, hb'⟩)
  | z :: zs, i + 1, j + 1, x, y, b, hn, hi, hj, hij, hb => by
    simp at hi hj
    have h1 : (cbs zs).Nodup := by
      unfold cbs at hn ⊢
      rw [List.filterMap_cons] at hn
      split at hn
      · exact hn
      · exact (List.nodup_cons.1 hn).2
    exact cbs_ne h1 hi hj (by omega) hb
theorem row_low {w : World} {B B' n size : Nat} {e : TypeId} {v : Value} {xs : List Value} (h : w.ownsRow B e size v n xs) (hB : B' ≤ B) : w.ownsRow B' e size v n xs := by
  refine ⟨h.1, ?_⟩
  rcases h.2 with h2 | ⟨g, cap, cur, rfl, hb, r⟩
  · exact .inl h2
  · exact .inr ⟨g, cap, cur, rfl, Nat.le_trans hB hb, r⟩
def chJ (x : Nat × Nat × Nat) : Int × Int × Int := ((x.1 : Int), (x.2.1 : Int), (x.2.2 : Int))
theorem chc_cic (l : List (Nat × Nat × Nat)) : l.flatMap chc = (l.map chJ).flatMap cic := by
  induction l with
  | nil => rfl
  | cons x l ih => rw [List.flatMap_cons, List.map_cons, List.flatMap_cons, ih]; rfl
/-- the book -/
def Book (W : World) (hb B : Nat) (es rs : List En) (f g : Nat) : Prop :=
  ∃ vo vw vr vq, Bk W hb B vo vw vr vq (es.map (·.v)) (es.map (·.u)) (rs.map (·.v)) (rs.map (·.u)) f g ∧ Ents W B 48 7 PTk es f es.length ∧ Ents W B 50 3 PCh rs g rs.length ∧ f ≤ es.length ∧ g ≤ rs.length ∧
    (∀ (i : Nat) (e : En), es[i]? = some e → f ≤ i → e.n ≤ 4294967296) ∧ (∀ (i : Nat) (e : En), rs[i]? = some e → g ≤ i → e.n ≤ 4294967296)
end Go.Proofs.YthlbbinlkmchjaaDoor
namespace Go.Proofs.YthlbbinlkmchjaaDoor
open Go.RowKit

/-- what keeping a copy leaves -/
def KR1 (W1 : World) (hb B : Nat) (vo vw vr vq : Value) (lo lw lr lq : List Value) (fw gw : Nat) (hs : List HT) (wx : World) : Prop :=
  ∃ cu vw', Bk wx hb B vo vw' vr vq lo (lw ++ [cu]) lr lq fw gw ∧ wx.ownsRow B 48 7 cu hs.length (hs.flatMap htc) ∧ (∀ b, cu.ownBlock = some b → W1.heap.size ≤ b) ∧ Only (hb :: ob vw) W1 wx

/-- the loop that keeps the characters -/
def KL (W wc : World) (hb B : Nat) (vo vw : Value) (lo lw lr lq : List Value) (fw gw : Nat) (rs : List En) (xs : List (Tk × Tm)) (k : Nat) (wr : World) : Prop :=
  ∃ vr vq, ∃ E : List En, Bk wr hb B vo vw vr vq lo lw (lr ++ E.map (·.v)) (lq ++ E.map (·.u)) fw gw ∧ Ents wr B 50 3 PCh (rs ++ E) gw (rs ++ E).length ∧ E.length = k ∧
    (∀ (i : Nat) (e : En), E[i]? = some e → (∃ x, xs[i]? = some x ∧ e.v = x.2.cv) ∧ (∀ b, e.u.ownBlock = some b → W.heap.size ≤ b) ∧ e.n ≤ 4294967296) ∧ FrT [27, 44] B wc wr

set_option maxRecDepth 100000 in
set_option maxHeartbeats 16000000 in
theorem keep_c {W : World} {hb B B1 : Nat} {es rs : List En} {fw gw : Nat} {tv : Value} {xs : List (Tk × Tm)} (hbk : Book W hb B es rs fw gw) (ht : TL W B1 tv xs) (hB1 : B ≤ B1)
    (hsep : ∀ e ∈ es ++ rs, ∀ b, BS e b → b < B1) (hne : es.length ≤ 1000000) (hnr : rs.length ≤ 1000000000000) (hnx : xs.length ≤ 4294967296) (hch : ∀ x ∈ xs, x.1.ch.length ≤ 4294967296) :
    Calls Tryd.prog 32 #[.pointer (some ⟨hb, 0, none⟩), tv] W fun e w' => e = .returned (.tuple #[]) ∧ ∃ e1 E, Book w' hb B (es ++ [e1]) (rs ++ E) fw gw ∧ E.length = xs.length ∧ FrT [27, 32, 44] B W w' := by
  obtain ⟨i32, hi32, z320, z321, z322⟩ := info_parts info32
  obtain ⟨i44, hi44, z440, z441, z442⟩ := info_parts info44
  obtain ⟨i48, hi48, z480, z481, z482⟩ := info_parts info48
  obtain ⟨i50, hi50, z500, z501, z502⟩ := info_parts info50
  obtain ⟨vo, vw, vr, vq, hk, hes, hrs, hfe, hgr, hbe, hbr⟩ := hbk
  have HBD := hid (And.intro hbe hbr)
  obtain ⟨lo, hlo⟩ : ∃ lo, es.map (·.v) = lo := ⟨_, rfl⟩
  obtain ⟨lw, hlw⟩ : ∃ lw, es.map (·.u) = lw := ⟨_, rfl⟩
  obtain ⟨lr, hlr⟩ : ∃ lr, rs.map (·.v) = lr := ⟨_, rfl⟩
  obtain ⟨lq, hlq⟩ : ∃ lq, rs.map (·.u) = lq := ⟨_, rfl⟩
  rw [hlo, hlw, hlr, hlq] at hk
  have hn : lo.length ≤ 1000000 ∧ lw.length ≤ 1000000 ∧ xs.length ≤ 4294967296 := by rw [← hlo, ← hlw]; simp; omega
  have HL := hid (And.intro hlo (And.intro hlw (And.intro hlr hlq)))
  have HES := hid hes
  have HRS := hid hrs
  have HFG := hid (And.intro hfe hgr)
  have HSEP := hid hsep
  have HNR := hid hnr
  have HCHL := hid hch
  have HK := hid hk
  have HT := hid ht
  clear hlo hlw hlr hlq hes hrs hfe hgr hsep hnr hch hne hnx hbe hbr
  have hBW : B ≤ W.heap.size := Nat.le_trans hk.bb (Nat.le_of_lt hk.c.lt)
  obtain ⟨ad, cap, e, hsl, _⟩ := row_reads ht.row
  subst e
  obtain ⟨hs, hhl, hhc, hhv⟩ := ht.hts
  rw [hhc, ← hhl] at hsl
  rw [← hhl] at hn ⊢
  have HSL := hid hsl
  have HHV := hid hhv
  have HHC := hid (And.intro hhl hhc)
  have HHL := hid hhl
  have HCC := hid hhc
  have c0 : W.cell? ⟨hb, 0, none⟩ = some vo := hk.c.cell 0
  have f0 := fun i => hk.c.froz i
  obtain ⟨ado, capo, hvo, _⟩ := row_reads hk.ro
  obtain ⟨adw, capw, hvw, _⟩ := row_reads hk.rw_
  have hlt := hk.c.lt
  have ha1 : lo.length + 1 ≤ maxLen := by unfold maxLen; omega
  have ha2 : (lo.length + 1) * 24 ≤ 140737488355328 := by omega
  have hb1 : lw.length + 1 ≤ maxLen := by unfold maxLen; omega
  have hb2 : (lw.length + 1) * 24 ≤ 140737488355328 := by omega
  have hc1 : 0 + hs.length ≤ maxLen := by unfold maxLen; omega
  have hc2 : (0 + hs.length) * 88 ≤ 140737488355328 := by omega
  have hkA := hk.still (alloc_still W (.cells #[.slice ad hs.length cap] 32))
  subst hvo
  subst hvw
  have hro := hkA.ro
  have HKA := hid hkA
  have HBW := hid hBW
  have hge : B ≤ (W.alloc (.cells #[.slice ad hs.length cap] 32)).heap.size := by simp; omega
  clear hk ht hsl hkA hhl hhc hhv
  go_enter Tryd.func32, Tryd.ntmps32
  go_wp2_with (refine wpList_append_sl _ rfl _ _ 24 rfl B 32 i32 _ 1 24 Tryd.underlying24 hi32 z320 z321 z322 rfl (by decide) (.slice ado lo.length capo) lo.length lo rfl hro (some ⟨W.heap.size, 0, none⟩) 1 1 [.slice ad hs.length cap] rfl rfl (sl_newest W [.slice ad hs.length cap] 32 rfl) (oneSl _ _ _ _ rfl) ha1 ha2 hge ?_; intro v' w6 hown hgrew; obtain ⟨ad', cap', rfl, -, -⟩ := row_reads hown; have hg6 := HKA.out.blk0 hgrew; have d0 := hg6.cell 0; have d1 := fun i => hg6.froz i; simp only [List.getElem?_cons_zero] at d0; have HG := hid (HKA.out.grow0 hown hgrew); clear hown hgrew hg6)
  obtain ⟨W1, hW1⟩ : ∃ W1, w6.setCell ⟨hb, 0, none⟩ (.slice ad' (lo.length + 1) cap') = W1 := ⟨_, rfl⟩
  rw [hW1] at HG
  rw [hW1]
  clear hW1 d0 d1 c0 f0 hro hge ha1 ha2
  have HK1 := hid HG.out.1
  have HO1 := hid (Only.behind (alloc_still W (.cells #[.slice ad hs.length cap] 32)) HG.out.2)
  have hsl1 : Sl W1 ad hs.length (hs.flatMap htc) := HSL.out.keep HO1.out (fun b off e hm => by
    have hty : Ty W b 48 := Ty.row HT.out.row (by rw [e]; rfl)
    simp only [List.mem_cons] at hm
    rcases hm with hm | hm
    · exact hty.ne (by decide) (hm ▸ HK.out.ty.1)
    · exact hty.ne (by decide) (HK.out.ty.2.1 b hm))
  have HSL1 := hid hsl1
  have hB1' : B ≤ W1.heap.size := Nat.le_trans HBW.out HO1.out.size
  have c1 : W1.cell? ⟨hb, 1, none⟩ = some (.slice adw lw.length capw) := HK1.out.c.cell 1
  have mf : Tryd.prog.follows .mixedOrders = true := by kernel_rfl
  have hone48 := htc_one hs
  clear hsl1
  go_cut [] from 16 to 26 (fun wx => KR1 W1 hb B (.slice ad' (lo.length + 1) cap') (.slice adw lw.length capw) vr vq (lo ++ [.slice ad hs.length cap]) lw lr lq fw gw hs wx)
  case first =>
    go_region_law
      (first
        | (refine step_append_sl _ rfl _ _ 32 rfl B 48 i48 _ 7 88 Tryd.underlying32 hi48 z480 z481 z482 rfl (by decide) (.slice none 0 0) 0 [] (by rfl) (World.ownsRow_nil _ _ _ _) ad hs.length cap (hs.flatMap htc) (by rfl) (flat_len htc_len hs) (HSL1.out.only ((Only.refl [] W1).drew)) hone48 hc1 hc2 hB1' ?_; intro v7 w7 hown hgrew; rw [Nat.zero_add, List.nil_append] at hown; obtain ⟨ad7, cap7, rfl, -, -⟩ := row_reads hown; have HF7 := hid hgrew.fresh; have HR7 := hid hown; clear hown hgrew; have HK7 := hid (HK1.out.still (((Only.refl [] W1).drew).trans HF7.out.1)); have HA7 := hid (HK7.out.still (alloc_still w7 (.cells #[.slice ad7 hs.length cap7] 32))); have c17 : w7.cell? ⟨hb, 1, none⟩ = some (.slice adw lw.length capw) := HK7.out.c.cell 1; have c18 : (w7.alloc (.cells #[.slice ad7 hs.length cap7] 32)).cell? ⟨hb, 1, none⟩ = some (.slice adw lw.length capw) := HA7.out.c.cell 1; have hB7 : B ≤ (w7.alloc (.cells #[.slice ad7 hs.length cap7] 32)).heap.size := (by have := HA7.out.c.lt; have := HA7.out.bb; omega))
        | (refine step_append_sl _ rfl _ _ 24 rfl B 32 i32 _ 1 24 Tryd.underlying24 hi32 z320 z321 z322 rfl (by decide) (.slice adw lw.length capw) lw.length lw (by rfl) HA7.out.rw_ (some ⟨w7.heap.size, 0, none⟩) 1 1 [.slice ad7 hs.length cap7] (by rfl) (by rfl) (sl_newest w7 [.slice ad7 hs.length cap7] 32 rfl) (oneSl _ _ _ _ rfl) hb1 hb2 hB7 ?_; intro v8 w8 hown hgrew; obtain ⟨ad8, cap8, rfl, -, -⟩ := row_reads hown; have hg8 := HA7.out.blk1 hgrew; have d0 := hg8.cell 1; have d1 := fun i => hg8.froz i; simp only [List.getElem?_cons_zero, List.getElem?_cons_succ] at d0; have HG8 := hid (HA7.out.grow1 hown hgrew); clear hown hgrew hg8))
    all_goals
      go_wp2
      go_meet
      case rel =>
        refine ⟨.slice ad7 hs.length cap7, .slice ad8 (lw.length + 1) cap8, HG8.out.1, ?_, fun b hb' => ?_, ?_⟩
        · refine row_only (row_only HR7.out (alloc_still w7 _) (by simp)) HG8.out.2 (fun b hb' hm => ?_)
          simp only [List.mem_cons] at hm
          have hty := Ty.row (row_only HR7.out (alloc_still w7 (.cells #[.slice ad7 hs.length cap7] 32)) (by simp)) hb'
          rcases hm with hm | hm
          · exact hty.ne (by decide) (hm ▸ HA7.out.ty.1)
          · exact hty.ne (by decide) (HA7.out.ty.2.2.1 b hm)
        · exact Nat.le_of_eq (HF7.out.2 b hb').symm
        · exact Only.behind ((((Only.refl [] W1).drew).trans HF7.out.1).trans (alloc_still w7 _)) HG8.out.2
  case rest =>
  obtain ⟨Wb, hWb⟩ : ∃ Wb, Wb = wc := ⟨_, rfl⟩
  subst hWb
  obtain ⟨cu, vw', hk2, hcu, hcub, ho2⟩ := hcut
  obtain ⟨vo', hvo'⟩ : ∃ v, Value.slice ad' (lo.length + 1) cap' = v := ⟨_, rfl⟩
  rw [hvo'] at hk2
  have HK2 := hid hk2
  have HCU := hid (And.intro hcu hcub)
  have HF2 := hid (show FrT [27, 32] B W Wb from by
    have h1 : FrT [27, 32] B W W1 := FrT.of HO1.out HBW.out (fun b hm => by
      simp only [List.mem_cons] at hm
      rcases hm with rfl | hm
      · exact ⟨HK.out.bb, fun _ => ⟨27, by simp, HK.out.ty.1⟩⟩
      · exact ⟨(row_ge HK.out.ro b (mem_ob.1 hm)).1, fun _ => ⟨32, by simp, HK.out.ty.2.1 b hm⟩⟩)
    refine h1.trans (FrT.of ho2 hB1' (fun b hm => ?_))
    simp only [List.mem_cons] at hm
    rcases hm with rfl | hm
    · exact ⟨HK.out.bb, fun _ => ⟨27, by simp, HK1.out.ty.1⟩⟩
    · exact ⟨(row_ge HK1.out.rw_ b (mem_ob.1 hm)).1, fun _ => ⟨32, by simp, HK1.out.ty.2.2.1 b hm⟩⟩)
  clear hB1' HSL1 HG HKA HHC hk2 hcu hcub ho2 hvo' c1 hone48 hc1 hc2 hb1 hb2
  have HW1 := hid HO1.out.size
  have hz0 : hs.length ≤ 4294967296 := hn.2.2
  go_wp2_with fail
  go_loopw [29] (fun i wr => ∃ k : Nat, i = .int .i64 k ∧ k ≤ hs.length ∧ KL W Wb hb B vo' vw' (lo ++ [.slice ad hs.length cap]) (lw ++ [cu]) lr lq fw gw rs xs k wr) (fun i _ => hs.length - (RowKit.intOf i).toNat)
  case atStart =>
    refine ⟨0, rfl, Nat.zero_le _, vr, vq, [], ?_, ?_, rfl, fun i e hi => by simp at hi, FrT.refl _ _ _⟩
    · rw [List.map_nil, List.append_nil, List.map_nil, List.append_nil]; exact HK2.out
    · rw [List.append_nil]
      exact HRS.out.fr HF2.out (by decide)
  case round =>
    obtain ⟨k, rfl, hk, hkl⟩ := hrel
    have HKL := hid hkl
    clear hkl
    by_cases hlt : k < hs.length
    · obtain ⟨vr1, vq1, E, hbk, hen, hEl, hEv, hfr⟩ := HKL.out
      have HBK := hid hbk
      have HEN := hid hen
      have HEL := hid hEl
      have HEV := hid hEv
      have HFR := hid hfr
      obtain ⟨y, hy⟩ := some_at (xs := hs) (i := k) hlt
      obtain ⟨x, hx⟩ := some_at (xs := xs) (i := k) (by rw [← HHL.out]; exact hlt)
      obtain ⟨y', hy', hcv⟩ := HHV.out k x hx
      rw [hy] at hy'
      cases hy'
      have hrow := hfr.row ((HF2.out.row (HT.out.rel x (List.mem_of_getElem? hx)).ch (by decide))) (by decide)
      rw [hcv, chc_cic] at hrow
      obtain ⟨ad3, c3, e3, -, -⟩ := row_reads hrow
      injection e3 with e31 e32 e33
      have hst := row_sl (hfr.row (HF2.out.row HT.out.row (by decide)) (by decide))
      rw [HCC.out, ← HHL.out] at hst
      obtain ⟨b, off, rfl, hbl, e0, e1, e2, e3', e4, e5, e6⟩ := hst.htok hy
      have hch3 := HCHL.out x (List.mem_of_getElem? hx)
      obtain ⟨L3, hL3⟩ : ∃ L3, x.1.ch.map chJ = L3 := ⟨_, rfl⟩
      have hL3l : x.1.ch.length = L3.length := by rw [← hL3, List.length_map]
      rw [hL3, hL3l] at hrow
      rw [hL3l] at e32 hch3
      have HROW := hid hrow
      have HX := hid hx
      have HXV := hid hcv
      obtain ⟨kd, at_, en, nm, vl, ca, cn, cc, em⟩ := y
      simp only at e32 e0 e1 e2 e3' e4 e5 e6 hcv hrow HXV HROW
      subst e32
      obtain ⟨n3, hn3⟩ : ∃ n3, L3.length = n3 := ⟨_, rfl⟩
      rw [hn3] at e5 HROW HXV hch3
      have HN3 := hid hn3
      have hkl : (k : Int) < (hs.length : Int) := by omega
      have hk0 : (0 : Int) ≤ (k : Int) := by omega
      have hz1 : (hs.length : Int) ≤ 4294967296 := by omega
      have HLT := hid hlt
      have hbl2 : ¬ b = wr.heap.size := by omega
      clear hbk hen hEl hEv hfr hy hx hcv hrow e31 e33 hst hL3 hL3l hn3 hlt hbl
      go_upto_region 5 with fail
      obtain ⟨W4, hW4⟩ : ∃ W4, wr.alloc (.cells #[.int .i64 kd, .int .i64 at_, .int .i64 en, .string nm, .string vl, .slice ca n3 cc, .bool em] 48) = W4 := ⟨_, rfl⟩
      obtain ⟨tb, htb⟩ : ∃ tb, wr.heap.size = tb := ⟨_, rfl⟩
      have HT4 := hid (show Blk W4 tb [.int .i64 kd, .int .i64 at_, .int .i64 en, .string nm, .string vl, .slice ca n3 cc, .bool em] 48 by rw [← hW4]; exact Blk.new wr #[.int .i64 kd, .int .i64 at_, .int .i64 en, .string nm, .string vl, .slice ca n3 cc, .bool em] 48 htb)
      have HO4 := hid (show Only [] wr W4 by rw [← hW4]; exact alloc_still wr _)
      have HTB := hid htb
      rw [hW4, htb]
      rw [htb] at hbl2
      clear hW4 htb e0 e1 e2 e3' e4 e5 e6
      have HK4 := hid (HBK.out.still HO4.out)
      obtain ⟨adr, capr, hvr, -, -⟩ := row_reads HK4.out.rr
      obtain ⟨lr1, hlr1⟩ : ∃ l, lr ++ E.map (·.v) = l := ⟨_, rfl⟩
      obtain ⟨lq1, hlq1⟩ : ∃ l, lq ++ E.map (·.u) = l := ⟨_, rfl⟩
      have hlr2 : lr1.length ≤ 1000000000000 + 4294967296 := by
        have h1 := HL.out.2.2.1
        have h2 := HEL.out
        have h3 := HNR.out
        rw [← hlr1, ← h1]; simp; omega
      have hlq2 : lq1.length ≤ 1000000000000 + 4294967296 := by
        have h1 := HL.out.2.2.2
        have h2 := HEL.out
        have h3 := HNR.out
        rw [← hlq1, ← h1]; simp; omega
      have HLR := hid (And.intro hlr1 hlq1)
      rw [hlr1] at hvr
      rw [hlr1, hlq1] at HK4
      subst hvr
      clear hlr1 hlq1
      have t5 : W4.cell? ⟨tb, 5, none⟩ = some (.slice ca n3 cc) := HT4.out.cell 5
      have c2 : W4.cell? ⟨hb, 2, none⟩ = some (.slice adr lr1.length capr) := HK4.out.c.cell 2
      have HA4 := hid (HK4.out.still (alloc_still W4 (.cells #[.slice ca n3 cc] 44)))
      have HAD := hid (HA4.out.still ((Only.refl [] _).drew))
      have c2a : (W4.alloc (.cells #[.slice ca n3 cc] 44)).cell? ⟨hb, 2, none⟩ = some (.slice adr lr1.length capr) := HA4.out.c.cell 2
      have t5a : (W4.alloc (.cells #[.slice ca n3 cc] 44)).cell? ⟨tb, 5, none⟩ = some (.slice ca n3 cc) := (HT4.out.alloc _).cell 5
      have hr1 : lr1.length + 1 ≤ maxLen := by unfold maxLen; omega
      have hr2 : (lr1.length + 1) * 24 ≤ 140737488355328 := by omega
      have hBA : B ≤ (W4.alloc (.cells #[.slice ca n3 cc] 44)).drew.heap.size := by have := HAD.out.c.lt; have := HAD.out.bb; omega
      go_cut [] from 33 to 43 (fun wx => ∃ vr', Bk wx hb B vo' vw' vr' vq1 (lo ++ [.slice (some ⟨b, off, none⟩) hs.length cap]) (lw ++ [cu]) (lr1 ++ [.slice ca n3 cc]) lq1 fw gw ∧ Only (hb :: ob (.slice adr lr1.length capr)) W4 wx)
      case first =>
        go_region_law
          (first
            | (refine step_append_sl _ rfl _ _ 25 rfl B 44 i44 _ 1 24 Tryd.underlying25 hi44 z440 z441 z442 rfl (by decide) (.slice adr lr1.length capr) lr1.length lr1 (by rfl) HAD.out.rr (some ⟨W4.heap.size, 0, none⟩) 1 1 [.slice ca n3 cc] (by rfl) (by rfl) ((sl_newest W4 [.slice ca n3 cc] 44 rfl).only ((Only.refl [] _).drew)) (oneSl _ _ _ _ rfl) hr1 hr2 hBA ?_; intro v8 w8 hown hgrew; obtain ⟨ad8, cap8, rfl, -, -⟩ := row_reads hown; have hg8 := HAD.out.blk2 hgrew; have d0 := hg8.cell 2; have d1 := fun i => hg8.froz i; simp only [List.getElem?_cons_zero, List.getElem?_cons_succ] at d0; have HG8 := hid (HAD.out.grow2 hown hgrew); clear hown hgrew hg8))
        all_goals
          go_wp2
          go_meet
          case rel => exact ⟨_, HG8.out.1, Only.behind ((alloc_still W4 _).trans ((Only.refl [] _).drew)) HG8.out.2⟩
      case rest =>
      obtain ⟨vr2, hk5, ho5⟩ := hcut
      have HK5 := hid hk5
      have HO5 := hid ho5
      have HT5 := hid (ho5.blk HT4.out (fun hm => by
        simp only [List.mem_cons] at hm
        rcases hm with hm | hm
        · exact (Ty.blk HT4.out).ne (by decide) (hm ▸ HK4.out.ty.1)
        · exact (Ty.blk HT4.out).ne (by decide) (HK4.out.ty.2.2.2.1 _ hm)))
      have HR5 := hid (row_only (row_only HROW.out HO4.out (by simp)) ho5 (fun b' hb' hm => by
        have hty := Ty.row (row_only HROW.out HO4.out (by simp)) hb'
        simp only [List.mem_cons] at hm
        rcases hm with hm | hm
        · exact hty.ne (by decide) (hm ▸ HK4.out.ty.1)
        · exact hty.ne (by decide) (HK4.out.ty.2.2.2.1 _ hm)))
      obtain ⟨adq, capq, hvq, -, -⟩ := row_reads hk5.rq
      subst hvq
      have hs5 := row_sl HR5.out
      have HS5 := hid hs5
      clear hk5 ho5 t5 c2 c2a t5a hr1 hr2 hBA hs5
      have t5 : wc.cell? ⟨tb, 5, none⟩ = some (.slice ca n3 cc) := HT5.out.cell 5
      have c3 : wc.cell? ⟨hb, 3, none⟩ = some (.slice adq lq1.length capq) := HK5.out.c.cell 3
      have hq1 : lq1.length + 1 ≤ maxLen := by unfold maxLen; omega
      have hq2 : (lq1.length + 1) * 24 ≤ 140737488355328 := by omega
      have hn1 : 0 + n3 ≤ maxLen := by unfold maxLen; omega
      have hn2 : (0 + n3) * 24 ≤ 140737488355328 := by omega
      have hone50 := cic_one L3
      have hL3n : (L3.flatMap cic).length = n3 * 3 := by rw [flat_len cic_len, HN3.out]
      have hB5 : B ≤ wc.heap.size := by have := HK5.out.c.lt; have := HK5.out.bb; omega
      have HKEY : Hid (∀ (w7 Wf : World) (ad7 : Option Addr) (cap7 : Nat) (vq' : Value), Only [] wc w7 → w7.ownsRow B 50 3 (.slice ad7 n3 cap7) n3 (L3.flatMap cic) → (∀ b', (Value.slice ad7 n3 cap7).ownBlock = some b' → wc.heap.size ≤ b') →
          Bk Wf hb B vo' vw' vr2 vq' (lo ++ [.slice (some ⟨b, off, none⟩) hs.length cap]) (lw ++ [cu]) (lr1 ++ [.slice ca n3 cc]) (lq1 ++ [.slice ad7 n3 cap7]) fw gw → Only (hb :: ob (.slice adq lq1.length capq)) (w7.alloc (.cells #[.slice ad7 n3 cap7] 44)) Wf →
          KL W Wb hb B vo' vw' (lo ++ [.slice (some ⟨b, off, none⟩) hs.length cap]) (lw ++ [cu]) lr lq fw gw rs xs (k + 1) Wf) := hid (by
        intro w7 Wf ad7 cap7 vq' g1 g2 g3 g4 g5
        have hBr : B ≤ wr.heap.size := by have := HBK.out.c.lt; have := HBK.out.bb; omega
        have hB4 : B ≤ W4.heap.size := Nat.le_trans hBr HO4.out.size
        have hk7 := (HK5.out.still g1).still (alloc_still w7 (.cells #[.slice ad7 n3 cap7] 44))
        have f4 : FrT [27, 44] B wr W4 := FrT.only HO4.out hBr
        have f5 : FrT [27, 44] B W4 wc := FrT.of HO5.out hB4 (fun b' hm => by
          simp only [List.mem_cons] at hm
          rcases hm with rfl | hm
          · exact ⟨HK4.out.bb, fun _ => ⟨27, by simp, HK4.out.ty.1⟩⟩
          · exact ⟨(row_ge HK4.out.rr b' (mem_ob.1 hm)).1, fun _ => ⟨44, by simp, HK4.out.ty.2.2.2.1 b' hm⟩⟩)
        have f7 : FrT [27, 44] B wc (w7.alloc (.cells #[.slice ad7 n3 cap7] 44)) := FrT.only (g1.trans (alloc_still w7 _)) hB5
        have f8 : FrT [27, 44] B (w7.alloc (.cells #[.slice ad7 n3 cap7] 44)) Wf := FrT.of g5 (Nat.le_trans hB5 f7.lo.size) (fun b' hm => by
          simp only [List.mem_cons] at hm
          rcases hm with rfl | hm
          · exact ⟨hk7.bb, fun _ => ⟨27, by simp, hk7.ty.1⟩⟩
          · exact ⟨(row_ge hk7.rq b' (mem_ob.1 hm)).1, fun _ => ⟨44, by simp, hk7.ty.2.2.2.2 b' hm⟩⟩)
        have fa := ((f4.trans f5).trans f7).trans f8
        have hwc : wr.heap.size ≤ wc.heap.size := Nat.le_trans HO4.out.size f5.lo.size
        have hv1 := (f7.trans f8).row HR5.out (by decide)
        have hu1 := f8.row (row_only g2 (alloc_still w7 (.cells #[.slice ad7 n3 cap7] 44)) (by simp)) (by decide)
        have hxr := (HT.out.rel x (List.mem_of_getElem? HX.out)).ch
        have hpush := Ents.push (x := ⟨.slice ca n3 cc, .slice ad7 n3 cap7, n3, L3.flatMap cic⟩) (HEN.out.fr fa (by decide)) (row_low hv1 hB1) hu1 (fun b' h1 h2 => by
            have := (row_ge HR5.out b' h1).2
            have := g3 b' h2
            omega) ⟨L3, HN3.out.symm, rfl, show n3 ≤ 8589934592 by omega⟩ (fun e he b' hb1 hb2 => by
            have hlt' := (HEN.out.bs e he b' hb1).2.lt
            rcases hb2 with hb2 | hb2
            · rcases List.mem_append.1 he with he | he
              · have h1 := HSEP.out e (List.mem_append_right _ he) b' hb1
                have h2 := (row_ge HR5.out b' hb2).1
                omega
              · obtain ⟨i, hi⟩ := List.getElem?_of_mem he
                obtain ⟨⟨z, hz, hzv⟩, hzu, -⟩ := HEV.out i e hi
                have hik : i < k := by
                  have h1 := (List.getElem?_eq_some_iff.1 hi).1
                  have h2 := HEL.out
                  omega
                rcases hb1 with hb1 | hb1
                · rw [hzv] at hb1
                  exact cbs_ne HT.out.ap hz HX.out hik hb1 (by rw [HXV.out]; exact hb2)
                · have h1 := hzu b' hb1
                  have h2 := (row_ge hxr b' (by rw [HXV.out]; exact hb2)).2
                  omega
            · have := g3 b' hb2
              omega)
        refine ⟨vr2, vq', E ++ [⟨.slice ca n3 cc, .slice ad7 n3 cap7, n3, L3.flatMap cic⟩], ?_, ?_, ?_, fun i e hi => ?_, HFR.out.trans fa⟩
        · rw [List.map_append, List.map_append, ← List.append_assoc, ← List.append_assoc, HLR.out.1, HLR.out.2]
          exact g4
        · rw [← List.append_assoc, List.length_append]
          exact hpush
        · rw [List.length_append, HEL.out]; rfl
        · rcases Nat.lt_or_ge i E.length with q | q
          · rw [List.getElem?_append_left q] at hi
            exact HEV.out i e hi
          · rw [List.getElem?_append_right q] at hi
            have h0 : i - E.length = 0 := by
              rcases Nat.eq_zero_or_pos (i - E.length) with q1 | q1
              · exact q1
              · rw [List.getElem?_eq_none (by simp; omega)] at hi; cases hi
            rw [h0] at hi
            have hie : i = k := by have := HEL.out; omega
            obtain rfl := (Option.some.inj hi).symm
            refine ⟨⟨x, by rw [hie]; exact HX.out, HXV.out.symm⟩, fun b' hb' => ?_, hch3⟩
            have h1 := g3 b' hb'
            have h2 := HW1.out
            have h3 := HF2.out.lo.size
            have h4 := HFR.out.lo.size
            omega)
      go_wp2_with fail
      go_region_law
        (first
          | (refine step_append_sl _ rfl _ _ 44 rfl B 50 i50 _ 3 24 Tryd.underlying44 hi50 z500 z501 z502 rfl (by decide) (.slice none 0 0) 0 [] (by rfl) (World.ownsRow_nil _ _ _ _) ca n3 cc (L3.flatMap cic) (by rfl) hL3n (HS5.out.only ((Only.refl [] wc).drew)) hone50 hn1 hn2 hB5 ?_; intro v7 w7 hown hgrew; rw [Nat.zero_add, List.nil_append] at hown; obtain ⟨ad7, cap7, rfl, -, -⟩ := row_reads hown; have HF7 := hid hgrew.fresh; have HR7 := hid hown; clear hown hgrew; have HK7 := hid (HK5.out.still (((Only.refl [] wc).drew).trans HF7.out.1)); have HT7 := hid (((Only.refl [] wc).drew.trans HF7.out.1).blk HT5.out (by simp)); have HA7 := hid (HK7.out.still (alloc_still w7 (.cells #[.slice ad7 n3 cap7] 44))); have c37 : w7.cell? ⟨hb, 3, none⟩ = some (.slice adq lq1.length capq) := HK7.out.c.cell 3; have c38 : (w7.alloc (.cells #[.slice ad7 n3 cap7] 44)).cell? ⟨hb, 3, none⟩ = some (.slice adq lq1.length capq) := HA7.out.c.cell 3; have t57 : w7.cell? ⟨tb, 5, none⟩ = some (.slice ca n3 cc) := HT7.out.cell 5; have hB7 : B ≤ (w7.alloc (.cells #[.slice ad7 n3 cap7] 44)).heap.size := (by have := HA7.out.c.lt; have := HA7.out.bb; omega))
          | (refine step_append_sl _ rfl _ _ 25 rfl B 44 i44 _ 1 24 Tryd.underlying25 hi44 z440 z441 z442 rfl (by decide) (.slice adq lq1.length capq) lq1.length lq1 (by rfl) HA7.out.rq (some ⟨w7.heap.size, 0, none⟩) 1 1 [.slice ad7 n3 cap7] (by rfl) (by rfl) (sl_newest w7 [.slice ad7 n3 cap7] 44 rfl) (oneSl _ _ _ _ rfl) hq1 hq2 hB7 ?_; intro v8 w8 hown hgrew; obtain ⟨ad8, cap8, rfl, -, -⟩ := row_reads hown; have hg8 := HA7.out.blk3 hgrew; have d0 := hg8.cell 3; have d1 := fun i => hg8.froz i; simp only [List.getElem?_cons_zero, List.getElem?_cons_succ] at d0; have HG8 := hid (HA7.out.grow3 hown hgrew); clear hown hgrew hg8))
      all_goals
        go_wp2
        go_roundw
        case rel => exact ⟨k + 1, by go_num, HLT.out, HKEY.out _ _ _ _ _ (((Only.refl [] wc).drew).trans HF7.out.1) HR7.out (fun b' hb' => Nat.le_of_eq (HF7.out.2 b' hb').symm) HG8.out.1 HG8.out.2⟩
        case measure => have := HLT.out; simp [RowKit.intOf]; omega
    · have hkl : ¬ (k : Int) < (hs.length : Int) := by omega
      have hke : k = hs.length := by omega
      have HKE := hid hke
      clear hlt hke
      go_wp2_with fail
      go_end0
      obtain ⟨vr1, vq1, E, hbk, hen, hEl, hEv, hfr⟩ := HKL.out
      refine ⟨rfl, ⟨.slice ad hs.length cap, cu, hs.length, hs.flatMap htc⟩, E, ⟨vo', vw', vr1, vq1, ?_, ?_, ?_, ?_, ?_, fun i e hi hf => ?_, fun i e hi hf => ?_⟩, by rw [hEl, HKE.out], ?_⟩
      · rw [List.map_append, List.map_append, List.map_append, List.map_append, HL.out.1, HL.out.2.1, HL.out.2.2.1, HL.out.2.2.2]
        exact hbk
      · have h1 := HT.out.row
        rw [HCC.out, ← HHL.out] at h1
        have h2 := Ents.push (x := ⟨.slice ad hs.length cap, cu, hs.length, hs.flatMap htc⟩) (HES.out.fr HF2.out (by decide)) (row_low (HF2.out.row h1 (by decide)) hB1) HCU.out.1 (fun b h3 h4 => by
            have h5 := (row_ge h1 b h3).2
            have h6 := HCU.out.2 b h4
            have h7 := HW1.out
            omega) ⟨hs, rfl, rfl, show hs.length ≤ 8589934592 by omega⟩ (fun e he b h3 h4 => by
            have h5 := HSEP.out e (List.mem_append_left _ he) b h3
            have h6 := (HES.out.bs e he b h3).2.lt
            rcases h4 with h4 | h4
            · have := (row_ge h1 b h4).1
              omega
            · have := HCU.out.2 b h4
              have := HW1.out
              omega)
        rw [List.length_append]
        exact h2.fr hfr (by decide)
      · exact hen
      · have := HFG.out.1; rw [List.length_append]; omega
      · have := HFG.out.2; rw [List.length_append]; omega
      · rcases Nat.lt_or_ge i es.length with q | q
        · rw [List.getElem?_append_left q] at hi; exact HBD.out.1 i e hi hf
        · rw [List.getElem?_append_right q] at hi
          have h0 := List.mem_of_getElem? hi
          rw [List.mem_singleton] at h0
          rw [h0]; exact hz0
      · rcases Nat.lt_or_ge i rs.length with q | q
        · rw [List.getElem?_append_left q] at hi; exact HBD.out.2 i e hi hf
        · rw [List.getElem?_append_right q] at hi
          exact (hEv _ e hi).2.2
      · exact (HF2.out.mono (by simp)).trans (hfr.mono (by simp))
end Go.Proofs.YthlbbinlkmchjaaDoor
namespace Go.Proofs.YthlbbinlkmchjaaDoor
open Go.RowKit

/-- a row's element -/
theorem row_cell {W : World} {B n c : Nat} {e : TypeId} {ad : Option Addr} {xs : List Value} (h : W.ownsRow B e 1 (.slice ad n c) n xs) {i : Nat} {x : Value} (hi : xs[i]? = some x) : ∃ b, ad = some ⟨b, 0, none⟩ ∧ b < W.heap.size ∧ W.cell? ⟨b, i, none⟩ = some x := by
  rcases h.2 with ⟨e1, e2⟩ | ⟨g, cap, cur, e1, hb, hh, h3, h4, h5, h6⟩
  · subst e2
    have := h.1
    have h0 : xs = [] := List.eq_nil_of_length_eq_zero (by omega)
    rw [h0] at hi; simp at hi
  · injection e1 with e1
    refine ⟨g, e1, Ty.lt ⟨cur, hh⟩, ?_⟩
    have hlt : i < n * 1 := by
      have h7 := (List.getElem?_eq_some_iff.1 hi).1
      have := h.1; omega
    rw [← h6, List.getElem?_take, if_pos hlt] at hi
    simp [World.cell?, hh]
    simpa using hi
theorem map_at {α β : Type} {f : α → β} {l : List α} {i : Nat} {x : α} (h : l[i]? = some x) : (l.map f)[i]? = some (f x) := by rw [List.getElem?_map, h]; rfl

set_option maxRecDepth 100000 in
set_option maxHeartbeats 16000000 in
theorem holds_c {W : World} {hb B : Nat} {es rs : List En} {fw gw : Nat} (hbk : Book W hb B es rs fw gw) (hne : es.length ≤ 1000000000000000) (hnr : rs.length ≤ 1000000000000000) :
    Calls Tryd.prog 39 #[.pointer (some ⟨hb, 0, none⟩)] W fun e w' => e = .returned (.bool true) ∧ Only [] W w' := by
  obtain ⟨vo, vw, vr, vq, hk, hes, hrs, -⟩ := hbk
  have HK := hid hk
  have HES := hid hes
  have HRS := hid hrs
  obtain ⟨ado, capo, hvo, -, -⟩ := row_reads hk.ro
  obtain ⟨adw, capw, hvw, -, -⟩ := row_reads hk.rw_
  obtain ⟨adr, capr, hvr, -, -⟩ := row_reads hk.rr
  obtain ⟨adq, capq, hvq, -, -⟩ := row_reads hk.rq
  rw [List.length_map] at hvo hvw hvr hvq
  subst hvo
  subst hvw
  subst hvr
  subst hvq
  have HC := hid (fun W' (h : Only [] W W') => (HK.out.still h).c)
  obtain ⟨ne, hn1⟩ : ∃ n, es.length = n := ⟨_, rfl⟩
  obtain ⟨nr, hn2⟩ : ∃ n, rs.length = n := ⟨_, rfl⟩
  have HN := hid (And.intro hn1 hn2)
  rw [hn1] at HC hne
  rw [hn2] at HC hnr
  have c0 : W.cell? ⟨hb, 0, none⟩ = some (.slice ado ne capo) := (HC.out W (Only.refl _ _)).cell 0
  clear hk hes hrs hn1 hn2
  go_enter Tryd.func39, Tryd.ntmps39
  go_wp2_with fail
  clear c0
  go_loopw [12] (fun vi wr => ∃ k : Nat, vi = .int .i64 k ∧ k ≤ ne ∧ Only [] W wr) (fun vi _ => ne - (RowKit.intOf vi).toNat)
  case atStart => exact ⟨0, rfl, by omega, Only.refl _ _⟩
  case round =>
    obtain ⟨k, rfl, hk, ho⟩ := hrel
    have HO := hid ho
    have hz : (ne : Int) ≤ 1000000000000000 := by omega
    have hk0 : (0 : Int) ≤ (k : Int) := by omega
    by_cases hlt : k < ne
    · obtain ⟨e, he⟩ := some_at (xs := es) (i := k) (by rw [HN.out.1]; exact hlt)
      have hrow1 := (HK.out.still ho).ro
      have hrow2 := (HK.out.still ho).rw_
      rw [List.length_map, HN.out.1] at hrow1 hrow2
      obtain ⟨b1, rfl, hb1, q1⟩ := row_cell hrow1 (map_at (f := fun x : En => x.v) he)
      obtain ⟨b2, rfl, hb2, q2⟩ := row_cell hrow2 (map_at (f := fun x : En => x.u) he)
      obtain ⟨⟨a1, c1, e1, s1⟩, a2, c2, e2, s2⟩ := (HES.out.keep ho (by simp)).rd e (List.mem_of_getElem? he)
      obtain ⟨hs, h1, h2, h3⟩ := HES.out.sh e (List.mem_of_getElem? he)
      rw [e1] at q1
      rw [e2] at q2
      rw [h1] at s1 s2 q1 q2
      rw [h2] at s1 s2
      have HHD := hid (fun (W' : World) (h : Only [] wr W') => heads_true hs a1 a2 c1 c2 W' (by omega) (s1.only h) (s2.only h))
      have m1 : wr.cell? ⟨hb, 1, none⟩ = some (.slice (some ⟨b2, 0, none⟩) ne capw) := (HC.out wr ho).cell 1
      have hkl : (k : Int) < (ne : Int) := by omega
      have HLT := hid hlt
      obtain ⟨l, hl⟩ : ∃ l, hs.length = l := ⟨_, rfl⟩
      rw [hl] at q1 q2 HHD
      clear ho hlt he hrow1 hrow2 e1 e2 s1 s2 h1 h2 h3 hb1 hb2 hl
      go_wp2_with fail
      refine (HHD.out _ (by first | exact Only.refl _ _ | exact (Only.refl _ _).drewN _)).mono ?_
      rintro e' w1 ⟨rfl, ho1⟩
      have HO1 := hid ho1
      clear ho1
      go_wp2
      go_roundw
      case rel => exact ⟨k + 1, by go_num, HLT.out, HO.out.trans HO1.out⟩
      case measure => have := HLT.out; simp [RowKit.intOf]; omega
    · have hkl : ¬ (k : Int) < (ne : Int) := by omega
      have m2 : wr.cell? ⟨hb, 2, none⟩ = some (.slice adr nr capr) := (HC.out wr ho).cell 2
      clear hlt ho
      go_wp2_with fail
      clear m2
      go_loopw [33] (fun vi wr2 => ∃ j : Nat, vi = .int .i64 j ∧ j ≤ nr ∧ Only [] W wr2) (fun vi _ => nr - (RowKit.intOf vi).toNat)
      case atStart => exact ⟨0, rfl, by omega, HO.out⟩
      case round =>
        obtain ⟨j, rfl, hj, ho⟩ := hrel
        have HOJ := hid ho
        have hz2 : (nr : Int) ≤ 1000000000000000 := by omega
        have hj0 : (0 : Int) ≤ (j : Int) := by omega
        by_cases hlt : j < nr
        · obtain ⟨e, he⟩ := some_at (xs := rs) (i := j) (by rw [HN.out.2]; exact hlt)
          have hrow1 := (HK.out.still ho).rr
          have hrow2 := (HK.out.still ho).rq
          rw [List.length_map, HN.out.2] at hrow1 hrow2
          obtain ⟨b1, rfl, hb1, q1⟩ := row_cell hrow1 (map_at (f := fun x : En => x.v) he)
          obtain ⟨b2, rfl, hb2, q2⟩ := row_cell hrow2 (map_at (f := fun x : En => x.u) he)
          obtain ⟨⟨a1, c1, e1, s1⟩, a2, c2, e2, s2⟩ := (HRS.out.keep ho (by simp)).rd e (List.mem_of_getElem? he)
          obtain ⟨hs, h1, h2, h3⟩ := HRS.out.sh e (List.mem_of_getElem? he)
          rw [e1] at q1
          rw [e2] at q2
          rw [h1] at s1 s2 q1 q2
          rw [h2] at s1 s2
          have HHD := hid (fun (W' : World) (h : Only [] wr W') => charsI_true hs a1 a2 c1 c2 W' (by omega) (s1.only h) (s2.only h))
          have m3 : wr.cell? ⟨hb, 3, none⟩ = some (.slice (some ⟨b2, 0, none⟩) nr capq) := (HC.out wr ho).cell 3
          have hjl : (j : Int) < (nr : Int) := by omega
          have HLT := hid hlt
          obtain ⟨l, hl⟩ : ∃ l, hs.length = l := ⟨_, rfl⟩
          rw [hl] at q1 q2 HHD
          clear ho hlt he hrow1 hrow2 e1 e2 s1 s2 h1 h2 h3 hb1 hb2 hl
          go_wp2_with fail
          refine (HHD.out _ (by first | exact Only.refl _ _ | exact (Only.refl _ _).drewN _)).mono ?_
          rintro e' w1 ⟨rfl, d, rfl⟩
          go_wp2
          go_roundw
          case rel => exact ⟨j + 1, by go_num, HLT.out, HOJ.out.drewN _⟩
          case measure => have := HLT.out; simp [RowKit.intOf]; omega
        · have hjl : ¬ (j : Int) < (nr : Int) := by omega
          clear hlt ho
          go_wp2_with fail
          go_ret
          exact ⟨rfl, HOJ.out⟩
end Go.Proofs.YthlbbinlkmchjaaDoor
namespace Go.Proofs.YthlbbinlkmchjaaDoor
open Go.RowKit

theorem app7 (x : HT) (l : List Value) (m : Nat) (v : Value) : (htc x ++ l).set (7 + m) v = htc x ++ l.set m v := by
  rw [List.set_append_right _ _ (by simp [htc]), show (htc x).length = 7 from rfl, Nat.add_sub_cancel_left]
theorem app3 (x : Int × Int × Int) (l : List Value) (m : Nat) (v : Value) : (cic x ++ l).set (3 + m) v = cic x ++ l.set m v := by
  rw [List.set_append_right _ _ (by simp [cic]), show (cic x).length = 3 from rfl, Nat.add_sub_cancel_left]
theorem flat_set7 : ∀ (hs : List HT) (k : Nat) (y : HT), k < hs.length → (((((((hs.flatMap htc).set (k * 7) (.int .i64 y.kd)).set (k * 7 + 1) (.int .i64 y.at_)).set (k * 7 + 2) (.int .i64 y.en)).set (k * 7 + 3) (.string y.nm)).set (k * 7 + 4) (.string y.vl)).set (k * 7 + 5) (.slice y.ca y.cn y.cc)).set (k * 7 + 6) (.bool y.em) = (hs.set k y).flatMap htc
  | [], k, y, h => by simp at h
  | x :: hs, 0, y, h => by
    simp only [List.flatMap_cons, List.set_cons_zero, Nat.zero_mul, Nat.zero_add]
    rfl
  | x :: hs, k + 1, y, h => by
    have ih := flat_set7 hs k y (by simpa using h)
    rw [List.flatMap_cons, List.set_cons_succ, List.flatMap_cons, ← ih]
    simp only [show (k + 1) * 7 = 7 + k * 7 by omega, Nat.add_assoc, app7]
theorem flat_set3 : ∀ (hs : List (Int × Int × Int)) (k : Nat) (y : (Int × Int × Int)), k < hs.length → (((hs.flatMap cic).set (k * 3) (.int .i64 y.1)).set (k * 3 + 1) (.int .i64 y.2.1)).set (k * 3 + 2) (.int .i64 y.2.2) = (hs.set k y).flatMap cic
  | [], k, y, h => by simp at h
  | x :: hs, 0, y, h => by
    simp only [List.flatMap_cons, List.set_cons_zero, Nat.zero_mul, Nat.zero_add]
    rfl
  | x :: hs, k + 1, y, h => by
    have ih := flat_set3 hs k y (by simpa using h)
    rw [List.flatMap_cons, List.set_cons_succ, List.flatMap_cons, ← ih]
    simp only [show (k + 1) * 3 = 3 + k * 3 by omega, Nat.add_assoc, app3]
theorem put_7 {w : World} {B n c b : Nat} {hs : List HT} (h : w.ownsRow B 48 7 (.slice (some ⟨b, 0, none⟩) n c) n (hs.flatMap htc)) (hn : hs.length = n) {k : Nat} (hk : k < n) (y : HT) :
    World.ownsRow ((((((((w).setCell ⟨b, k * 7, none⟩ (.int .i64 y.kd)).setCell ⟨b, k * 7 + 1, none⟩ (.int .i64 y.at_)).setCell ⟨b, k * 7 + 2, none⟩ (.int .i64 y.en)).setCell ⟨b, k * 7 + 3, none⟩ (.string y.nm)).setCell ⟨b, k * 7 + 4, none⟩ (.string y.vl)).setCell ⟨b, k * 7 + 5, none⟩ (.slice y.ca y.cn y.cc)).setCell ⟨b, k * 7 + 6, none⟩ (.bool y.em)) B 48 7 (.slice (some ⟨b, 0, none⟩) n c) n ((hs.set k y).flatMap htc) := by
  have p := fun {w : World} {xs : List Value} (h : w.ownsRow B 48 7 (.slice (some ⟨b, 0, none⟩) n c) n xs) (o : Nat) (ho : o < n * 7) (v : Value) => (by
    obtain ⟨b', cur, e, _, _, g⟩ := row_put h ho
    injection e with e
    injection e with e
    subst e
    exact g v : (w.setCell ⟨b, o, none⟩ v).ownsRow B 48 7 (.slice (some ⟨b, 0, none⟩) n c) n (xs.set o v))
  rw [← flat_set7 hs k y (by omega)]
  exact (p (p (p (p (p (p (p h (k * 7) (by omega) _) (k * 7 + 1) (by omega) _) (k * 7 + 2) (by omega) _) (k * 7 + 3) (by omega) _) (k * 7 + 4) (by omega) _) (k * 7 + 5) (by omega) _) (k * 7 + 6) (by omega) _)
theorem put_3 {w : World} {B n c b : Nat} {hs : List (Int × Int × Int)} (h : w.ownsRow B 50 3 (.slice (some ⟨b, 0, none⟩) n c) n (hs.flatMap cic)) (hn : hs.length = n) {k : Nat} (hk : k < n) (y : (Int × Int × Int)) :
    World.ownsRow ((((w).setCell ⟨b, k * 3, none⟩ (.int .i64 y.1)).setCell ⟨b, k * 3 + 1, none⟩ (.int .i64 y.2.1)).setCell ⟨b, k * 3 + 2, none⟩ (.int .i64 y.2.2)) B 50 3 (.slice (some ⟨b, 0, none⟩) n c) n ((hs.set k y).flatMap cic) := by
  have p := fun {w : World} {xs : List Value} (h : w.ownsRow B 50 3 (.slice (some ⟨b, 0, none⟩) n c) n xs) (o : Nat) (ho : o < n * 3) (v : Value) => (by
    obtain ⟨b', cur, e, _, _, g⟩ := row_put h ho
    injection e with e
    injection e with e
    subst e
    exact g v : (w.setCell ⟨b, o, none⟩ v).ownsRow B 50 3 (.slice (some ⟨b, 0, none⟩) n c) n (xs.set o v))
  rw [← flat_set3 hs k y (by omega)]
  exact (p (p (p h (k * 3) (by omega) _) (k * 3 + 1) (by omega) _) (k * 3 + 2) (by omega) _)
/-- the two maps of a list of entries that one's cells are changed in -/
theorem map_upd {es : List En} {i : Nat} {e : En} (h : es[i]? = some e) (cs : List Value) : (es.set i { e with cs := cs }).map (·.v) = es.map (·.v) ∧ (es.set i { e with cs := cs }).map (·.u) = es.map (·.u) ∧ (es.set i { e with cs := cs }).map (·.n) = es.map (·.n) := by
  obtain ⟨hi, rfl⟩ := List.getElem?_eq_some_iff.1 h
  refine ⟨?_, ?_, ?_⟩
  all_goals
    rw [List.map_set]
    apply List.ext_getElem?
    intro j
    rw [List.getElem?_set]
    split
    · next hj =>
      subst hj
      split
      · rw [List.getElem?_map, List.getElem?_eq_getElem hi]; rfl
      · next hl => simp at hl; omega
    · rfl
theorem set_get {es : List En} {i : Nat} {e x : En} (_h : es[i]? = some e) {j : Nat} {y : En} (hj : (es.set i x)[j]? = some y) : (j = i ∧ y = x) ∨ (j ≠ i ∧ es[j]? = some y) := by
  rw [List.getElem?_set] at hj
  split at hj
  · next e1 =>
    split at hj
    · exact .inl ⟨e1.symm, (Option.some.inj hj).symm⟩
    · cases hj
  · next e1 => exact .inr ⟨fun q => e1 q.symm, hj⟩
/-- a list of one's own is written over -/
theorem Ents.upd {W W' : World} {B t k : Nat} {P : Nat → List Value → Prop} {es : List En} {f n : Nat} (h : Ents W B t k P es f n) {i : Nat} {e : En} (hi : es[i]? = some e) (hf : f ≤ i) (hn : i < n) {L : List Nat} (ho : Only L W W') (hL : ∀ b ∈ L, BS e b) {cs : List Value}
    (h1 : W'.ownsRow B t k e.v e.n cs) (h2 : W'.ownsRow B t k e.u e.n cs) (hP : P e.n cs) : Ents W' B t k P (es.set i { e with cs := cs }) f n := by
  have hot : ∀ {j : Nat} {y : En}, j ≠ i → es[j]? = some y → ∀ b, BS y b → b ∉ L := fun {j y} hj hy b hb hm => h.sp i j e y b hi hf hn hy (fun q => hj q.symm) (hL b hm) hb
  have hmem : ∀ y ∈ es.set i { e with cs := cs }, (y = { e with cs := cs }) ∨ ∃ j, j ≠ i ∧ es[j]? = some y := fun y hy => by
    obtain ⟨j, hj⟩ := List.getElem?_of_mem hy
    rcases set_get hi hj with ⟨_, g⟩ | ⟨g1, g2⟩
    · exact .inl g
    · exact .inr ⟨j, g1, g2⟩
  refine ⟨fun y hy => ?_, fun y hy => ?_, fun y hy b hb => ?_, fun j y hj hf' hn' => ?_, fun j l y z b hj hf' hn' hl hjl hb => ?_⟩
  · rcases hmem y hy with rfl | ⟨j, hj, hy'⟩
    · exact Rd.of h1 h2
    · exact (h.rd y (List.mem_of_getElem? hy')).keep ho (hot hj hy')
  · rcases hmem y hy with rfl | ⟨j, hj, hy'⟩
    · exact hP
    · exact h.sh y (List.mem_of_getElem? hy')
  · rcases hmem y hy with rfl | ⟨j, hj, hy'⟩
    · rcases hb with hb | hb
      · exact ⟨(row_ge h1 b hb).1, Ty.row h1 hb⟩
      · exact ⟨(row_ge h2 b hb).1, Ty.row h2 hb⟩
    · obtain ⟨g1, g2⟩ := h.bs y (List.mem_of_getElem? hy') b hb
      exact ⟨g1, g2.keep ho (hot hj hy' b hb)⟩
  · rcases set_get hi hj with ⟨rfl, rfl⟩ | ⟨g1, g2⟩
    · exact ⟨h1, h2, (h.ow _ e hi hf hn).2.2⟩
    · obtain ⟨o1, o2, o3⟩ := h.ow j y g2 hf' hn'
      exact ⟨row_only o1 ho (fun b hb => hot g1 g2 b (.inl hb)), row_only o2 ho (fun b hb => hot g1 g2 b (.inr hb)), o3⟩
  · rcases set_get hi hj with ⟨rfl, rfl⟩ | ⟨g1, g2⟩
    · rcases set_get hi hl with ⟨g3, _⟩ | ⟨g3, g4⟩
      · exact absurd g3.symm hjl
      · exact h.sp j l e z b hi hf hn g4 hjl hb
    · rcases set_get hi hl with ⟨rfl, rfl⟩ | ⟨g3, g4⟩
      · exact h.sp j l y e b g2 hf' hn' hi hjl hb
      · exact h.sp j l y z b g2 hf' hn' g4 hjl hb
/-- a list more, that is nobody's -/
theorem Ents.pushOld {W : World} {B t k : Nat} {P : Nat → List Value → Prop} {es : List En} {f n : Nat} (h : Ents W B t k P es f n) (hn : n ≤ es.length) {x : En} (hr : Rd W x) (hP : P x.n x.cs) (hb : ∀ b, BS x b → B ≤ b ∧ Ty W b t)
    (hs : ∀ (i : Nat) (e : En), es[i]? = some e → f ≤ i → i < n → ∀ b, BS e b → ¬ BS x b) : Ents W B t k P (es ++ [x]) f n := by
  have hget : ∀ {i : Nat} {e : En}, (es ++ [x])[i]? = some e → (i < es.length ∧ es[i]? = some e) ∨ (es.length ≤ i ∧ e = x) := fun {i e} hi => by
    rcases Nat.lt_or_ge i es.length with g | g
    · rw [List.getElem?_append_left g] at hi; exact .inl ⟨g, hi⟩
    · rw [List.getElem?_append_right g] at hi
      exact .inr ⟨g, List.mem_singleton.1 (List.mem_of_getElem? hi)⟩
  refine ⟨fun e he => ?_, fun e he => ?_, fun e he => ?_, fun i e hi hf hin => ?_, fun i j e e' b hi hf hin hj hij hbe => ?_⟩
  · rcases List.mem_append.1 he with he | he
    · exact h.rd e he
    · rw [List.mem_singleton.1 he]; exact hr
  · rcases List.mem_append.1 he with he | he
    · exact h.sh e he
    · rw [List.mem_singleton.1 he]; exact hP
  · rcases List.mem_append.1 he with he | he
    · exact h.bs e he
    · rw [List.mem_singleton.1 he]; exact hb
  · rcases hget hi with ⟨_, hi2⟩ | ⟨g, _⟩
    · exact h.ow i e hi2 hf hin
    · omega
  · rcases hget hi with ⟨_, hi2⟩ | ⟨g, _⟩
    · rcases hget hj with ⟨_, hj2⟩ | ⟨_, rfl⟩
      · exact h.sp i j e e' b hi2 hf hin hj2 hij hbe
      · exact hs i e hi2 hf hin b hbe
    · omega
end Go.Proofs.YthlbbinlkmchjaaDoor
namespace Go.Proofs.YthlbbinlkmchjaaDoor
open Go.RowKit

def S7 (w : World) (b k : Nat) (y : HT) : World := (((((((w).setCell ⟨b, k * 7, none⟩ (.int .i64 y.kd)).setCell ⟨b, k * 7 + 1, none⟩ (.int .i64 y.at_)).setCell ⟨b, k * 7 + 2, none⟩ (.int .i64 y.en)).setCell ⟨b, k * 7 + 3, none⟩ (.string y.nm)).setCell ⟨b, k * 7 + 4, none⟩ (.string y.vl)).setCell ⟨b, k * 7 + 5, none⟩ (.slice y.ca y.cn y.cc)).setCell ⟨b, k * 7 + 6, none⟩ (.bool y.em)
def S3 (w : World) (b k : Nat) (y : Int × Int × Int) : World := (((w).setCell ⟨b, k * 3, none⟩ (.int .i64 y.1)).setCell ⟨b, k * 3 + 1, none⟩ (.int .i64 y.2.1)).setCell ⟨b, k * 3 + 2, none⟩ (.int .i64 y.2.2)
theorem S7_only (w : World) (b k : Nat) (y : HT) : Only [b] w (S7 w b k y) := by
  unfold S7
  exact ((((((set_hb _ b _ _).trans (set_hb _ b _ _)).trans (set_hb _ b _ _)).trans (set_hb _ b _ _)).trans (set_hb _ b _ _)).trans (set_hb _ b _ _)).trans (set_hb _ b _ _)
theorem S3_only (w : World) (b k : Nat) (y : Int × Int × Int) : Only [b] w (S3 w b k y) := by
  unfold S3
  exact ((set_hb _ b _ _).trans (set_hb _ b _ _)).trans (set_hb _ b _ _)

/-- the book while its lists are written over -/
structure WB (W : World) (hb B : Nat) (vo vw vr vq : Value) (lo lw lr lq : List Value) (f g : Nat) (ns ms : List Nat) (wr : World) : Prop where
  bk : Bk wr hb B vo vw vr vq lo lw lr lq f g
  es : ∃ es : List En, es.map (·.v) = lo ∧ es.map (·.u) = lw ∧ es.map (·.n) = ns ∧ Ents wr B 48 7 PTk es f es.length
  rs : ∃ rs : List En, rs.map (·.v) = lr ∧ rs.map (·.u) = lq ∧ rs.map (·.n) = ms ∧ Ents wr B 50 3 PCh rs g rs.length
  fr : FrT [48, 50] B W wr
theorem own_at {W : World} {B t k n : Nat} {v : Value} {cs : List Value} (h : W.ownsRow B t k v n cs) (hn : n ≠ 0) : ∃ b c cur, v = .slice (some ⟨b, 0, none⟩) n c ∧ Blk W b cur t ∧ n * k ≤ cur.length ∧ B ≤ b := by
  rcases h.2 with ⟨rfl, rfl⟩ | ⟨g, cap, cur, rfl, hb, hh, h3, h4, h5, h6⟩
  · exact absurd rfl hn
  · refine ⟨g, cap, cur.toList, rfl, by simpa [Blk] using hh, ?_, hb⟩
    have := Nat.mul_le_mul_right k h3
    simp; omega
theorem map_get {es : List En} {α : Type} {p : En → α} {l : List α} (h : es.map p = l) {i : Nat} {a : α} (hi : l[i]? = some a) : ∃ e, es[i]? = some e ∧ p e = a := by
  rw [← h, List.getElem?_map] at hi
  cases he : es[i]? with
  | none => rw [he] at hi; cases hi
  | some e => rw [he] at hi; exact ⟨e, rfl, Option.some.inj hi⟩
theorem WB.mark7 {W wr : World} {hb B : Nat} {vo vw vr vq : Value} {lo lw lr lq : List Value} {f g : Nat} {ns ms : List Nat} (h : WB W hb B vo vw vr vq lo lw lr lq f g ns ms wr) {i n j : Nat} (hf : f ≤ i) (hn : ns[i]? = some n) (hj : j < n) :
    ∃ b1 c1 cur1 b2 c2 cur2, lo[i]? = some (.slice (some ⟨b1, 0, none⟩) n c1) ∧ lw[i]? = some (.slice (some ⟨b2, 0, none⟩) n c2) ∧ b1 ≠ b2 ∧ Blk wr b1 cur1 48 ∧ Blk wr b2 cur2 48 ∧ n * 7 ≤ cur1.length ∧ n * 7 ≤ cur2.length ∧ b1 ≠ hb ∧ (∀ b ∈ ob vw, b1 ≠ b) ∧
      ∀ y, WB W hb B vo vw vr vq lo lw lr lq f g ns ms (S7 (S7 wr b1 j y) b2 j y) := by
  obtain ⟨es, e1, e2, e3, he⟩ := h.es
  obtain ⟨e, hi, hen⟩ := map_get e3 hn
  have hil : i < es.length := (List.getElem?_eq_some_iff.1 hi).1
  obtain ⟨o1, o2, o3⟩ := he.ow i e hi hf hil
  have q1 : lo[i]? = some e.v := by rw [← e1]; exact map_at hi
  have q2 : lw[i]? = some e.u := by rw [← e2]; exact map_at hi
  have hP := he.sh e (List.mem_of_getElem? hi)
  obtain ⟨hs, h1, h2, h3⟩ := hP
  rw [hen] at o1 o2 h1 h3
  obtain ⟨b1, c1, cur1, ev, hB1, l1, g1⟩ := own_at o1 (by omega)
  obtain ⟨b2, c2, cur2, eu, hB2, l2, g2⟩ := own_at o2 (by omega)
  have hne : b1 ≠ b2 := fun q => o3 b1 (by rw [ev]; rfl) (by rw [eu, q]; rfl)
  have t1 := Ty.blk hB1
  have t2 := Ty.blk hB2
  refine ⟨b1, c1, cur1, b2, c2, cur2, by rw [q1, ev], by rw [q2, eu], hne, hB1, hB2, l1, l2, fun q => t1.ne (by decide) (q ▸ h.bk.ty.1), fun b hb' q => t1.ne (by decide) (q ▸ h.bk.ty.2.2.1 b hb'), fun y => ?_⟩
  have k1 : Only [b1, b2] wr (S7 (S7 wr b1 j y) b2 j y) := (S7_only wr b1 j y).inl.trans (S7_only _ b2 j y).inr
  have r1 : (S7 wr b1 j y).ownsRow B 48 7 e.v n ((hs.set j y).flatMap htc) := by
    rw [h2, ev] at o1
    rw [ev]
    exact put_7 o1 h1.symm hj y
  have r1' := row_only r1 (S7_only (S7 wr b1 j y) b2 j y) (fun b hb' hm => by
    rw [ev] at hb'
    have q1 : b1 = b := Option.some.inj hb'
    have q2 : b = b2 := List.mem_singleton.1 hm
    exact hne (q1.trans q2))
  have r2 : (S7 (S7 wr b1 j y) b2 j y).ownsRow B 48 7 e.u n ((hs.set j y).flatMap htc) := by
    have o2' := row_only o2 (S7_only wr b1 j y) (fun b hb' hm => by
      rw [eu] at hb'
      have q1 : b2 = b := Option.some.inj hb'
      have q2 : b = b1 := List.mem_singleton.1 hm
      exact hne (q1.trans q2).symm)
    rw [h2, eu] at o2'
    rw [eu]
    exact put_7 o2' h1.symm hj y
  have hup := he.upd hi hf hil k1 (fun b hb' => by
    simp at hb'
    rcases hb' with rfl | rfl
    · exact .inl (by rw [ev]; rfl)
    · exact .inr (by rw [eu]; rfl)) (cs := (hs.set j y).flatMap htc) (by rw [hen]; exact r1') (by rw [hen]; exact r2) ⟨hs.set j y, by rw [List.length_set, hen]; exact h1, rfl, by rw [hen]; exact h3⟩
  obtain ⟨m1, m2, m3⟩ := map_upd hi ((hs.set j y).flatMap htc)
  obtain ⟨rs, r1, r2, r3, hr⟩ := h.rs
  have tt : ∀ b ∈ [b1, b2], Ty wr b 48 := fun b hb' => by
    simp at hb'
    rcases hb' with rfl | rfl
    · exact t1
    · exact t2
  refine ⟨h.bk.keep k1 (fun b hb' => ⟨(tt b hb').ne (by decide), (tt b hb').ne (by decide), (tt b hb').ne (by decide)⟩), ⟨_, m1.trans e1, m2.trans e2, m3.trans e3, by rw [List.length_set]; exact hup⟩, ⟨rs, r1, r2, r3, hr.keep k1 (fun b hb' => (tt b hb').ne (by decide))⟩, ?_⟩
  refine h.fr.trans (FrT.of k1 (by have := hB1.lt; omega) (fun b hb' => ?_))
  simp at hb'
  rcases hb' with rfl | rfl
  · exact ⟨g1, fun _ => ⟨48, by simp, t1⟩⟩
  · exact ⟨g2, fun _ => ⟨48, by simp, t2⟩⟩
theorem WB.mark3 {W wr : World} {hb B : Nat} {vo vw vr vq : Value} {lo lw lr lq : List Value} {f g : Nat} {ns ms : List Nat} (h : WB W hb B vo vw vr vq lo lw lr lq f g ns ms wr) {i n j : Nat} (hf : g ≤ i) (hn : ms[i]? = some n) (hj : j < n) :
    ∃ b1 c1 cur1 b2 c2 cur2, lr[i]? = some (.slice (some ⟨b1, 0, none⟩) n c1) ∧ lq[i]? = some (.slice (some ⟨b2, 0, none⟩) n c2) ∧ b1 ≠ b2 ∧ Blk wr b1 cur1 50 ∧ Blk wr b2 cur2 50 ∧ n * 3 ≤ cur1.length ∧ n * 3 ≤ cur2.length ∧ b1 ≠ hb ∧ (∀ b ∈ ob vq, b1 ≠ b) ∧
      ∀ y, WB W hb B vo vw vr vq lo lw lr lq f g ns ms (S3 (S3 wr b1 j y) b2 j y) := by
  obtain ⟨rs, e1, e2, e3, he⟩ := h.rs
  obtain ⟨e, hi, hen⟩ := map_get e3 hn
  have hil : i < rs.length := (List.getElem?_eq_some_iff.1 hi).1
  obtain ⟨o1, o2, o3⟩ := he.ow i e hi hf hil
  have q1 : lr[i]? = some e.v := by rw [← e1]; exact map_at hi
  have q2 : lq[i]? = some e.u := by rw [← e2]; exact map_at hi
  have hP := he.sh e (List.mem_of_getElem? hi)
  obtain ⟨hs, h1, h2, h3⟩ := hP
  rw [hen] at o1 o2 h1 h3
  obtain ⟨b1, c1, cur1, ev, hB1, l1, g1⟩ := own_at o1 (by omega)
  obtain ⟨b2, c2, cur2, eu, hB2, l2, g2⟩ := own_at o2 (by omega)
  have hne : b1 ≠ b2 := fun q => o3 b1 (by rw [ev]; rfl) (by rw [eu, q]; rfl)
  have t1 := Ty.blk hB1
  have t2 := Ty.blk hB2
  refine ⟨b1, c1, cur1, b2, c2, cur2, by rw [q1, ev], by rw [q2, eu], hne, hB1, hB2, l1, l2, fun q => t1.ne (by decide) (q ▸ h.bk.ty.1), fun b hb' q => t1.ne (by decide) (q ▸ h.bk.ty.2.2.2.2 b hb'), fun y => ?_⟩
  have k1 : Only [b1, b2] wr (S3 (S3 wr b1 j y) b2 j y) := (S3_only wr b1 j y).inl.trans (S3_only _ b2 j y).inr
  have r1 : (S3 wr b1 j y).ownsRow B 50 3 e.v n ((hs.set j y).flatMap cic) := by
    rw [h2, ev] at o1
    rw [ev]
    exact put_3 o1 h1.symm hj y
  have r1' := row_only r1 (S3_only (S3 wr b1 j y) b2 j y) (fun b hb' hm => by
    rw [ev] at hb'
    have q1 : b1 = b := Option.some.inj hb'
    have q2 : b = b2 := List.mem_singleton.1 hm
    exact hne (q1.trans q2))
  have r2 : (S3 (S3 wr b1 j y) b2 j y).ownsRow B 50 3 e.u n ((hs.set j y).flatMap cic) := by
    have o2' := row_only o2 (S3_only wr b1 j y) (fun b hb' hm => by
      rw [eu] at hb'
      have q1 : b2 = b := Option.some.inj hb'
      have q2 : b = b1 := List.mem_singleton.1 hm
      exact hne (q1.trans q2).symm)
    rw [h2, eu] at o2'
    rw [eu]
    exact put_3 o2' h1.symm hj y
  have hup := he.upd hi hf hil k1 (fun b hb' => by
    simp at hb'
    rcases hb' with rfl | rfl
    · exact .inl (by rw [ev]; rfl)
    · exact .inr (by rw [eu]; rfl)) (cs := (hs.set j y).flatMap cic) (by rw [hen]; exact r1') (by rw [hen]; exact r2) ⟨hs.set j y, by rw [List.length_set, hen]; exact h1, rfl, by rw [hen]; exact h3⟩
  obtain ⟨m1, m2, m3⟩ := map_upd hi ((hs.set j y).flatMap cic)
  obtain ⟨es, r1, r2, r3, hr⟩ := h.es
  have tt : ∀ b ∈ [b1, b2], Ty wr b 50 := fun b hb' => by
    simp at hb'
    rcases hb' with rfl | rfl
    · exact t1
    · exact t2
  refine ⟨h.bk.keep k1 (fun b hb' => ⟨(tt b hb').ne (by decide), (tt b hb').ne (by decide), (tt b hb').ne (by decide)⟩), ⟨es, r1, r2, r3, hr.keep k1 (fun b hb' => (tt b hb').ne (by decide))⟩, ⟨_, m1.trans e1, m2.trans e2, m3.trans e3, by rw [List.length_set]; exact hup⟩, ?_⟩
  refine h.fr.trans (FrT.of k1 (by have := hB1.lt; omega) (fun b hb' => ?_))
  simp at hb'
  rcases hb' with rfl | rfl
  · exact ⟨g1, fun _ => ⟨50, by simp, t1⟩⟩
  · exact ⟨g2, fun _ => ⟨50, by simp, t2⟩⟩
theorem Ents.none {W : World} {B t k : Nat} {P : Nat → List Value → Prop} {es : List En} {f n : Nat} (h : Ents W B t k P es f n) {f' n' : Nat} (hn : n' ≤ f') : Ents W B t k P es f' n' :=
  ⟨h.rd, h.sh, h.bs, fun i e _ h1 h2 => by omega, fun i j e e' b _ h1 h2 => by omega⟩
/-- a list of one's own has grown: what was is left, the new one is kept too -/
theorem Ents.give {W W' : World} {B t k : Nat} {P : Nat → List Value → Prop} {es : List En} {i n : Nat} (h : Ents W B t k P es i n) (hn : n ≤ es.length) {e : En} (hi : es[i]? = some e) (hin : i < n) {L : List Nat} (ho : Only L W W') (hL : ∀ b ∈ L, b < W.heap.size → BS e b) (hrd : Rd W' e)
    (hty : ∀ b, BS e b → Ty W' b t) {x : En} (h1 : W'.ownsRow B t k x.v x.n x.cs) (h2 : W'.ownsRow B t k x.u x.n x.cs) (hx : ∀ b, BS x b → b < W.heap.size → BS e b) (hP : P x.n x.cs) : Ents W' B t k P (es ++ [x]) (i + 1) n := by
  have hot : ∀ {j : Nat} {y : En}, j ≠ i → es[j]? = some y → ∀ b, BS y b → b ∉ L := fun {j y} hj hy b hb hm =>
    h.sp i j e y b hi (Nat.le_refl _) hin hy (fun q => hj q.symm) (hL b hm (h.bs y (List.mem_of_getElem? hy) b hb).2.lt) hb
  have hmem : ∀ y ∈ es, y = e ∨ ∃ j, j ≠ i ∧ es[j]? = some y := fun y hy => by
    obtain ⟨j, hj⟩ := List.getElem?_of_mem hy
    by_cases q : j = i
    · subst q; rw [hi] at hj; exact .inl (Option.some.inj hj).symm
    · exact .inr ⟨j, q, hj⟩
  have hnew : Ents W' B t k P es (i + 1) n := by
    refine ⟨fun y hy => ?_, h.sh, fun y hy b hb => ?_, fun j y hj hf' hn' => ?_, fun j l y z b hj hf' hn' => h.sp j l y z b hj (by omega) hn'⟩
    · rcases hmem y hy with rfl | ⟨j, hj, hy'⟩
      · exact hrd
      · exact (h.rd y hy).keep ho (hot hj hy')
    · obtain ⟨g1, g2⟩ := h.bs y hy b hb
      rcases hmem y hy with rfl | ⟨j, hj, hy'⟩
      · exact ⟨g1, hty b hb⟩
      · exact ⟨g1, g2.keep ho (hot hj hy' b hb)⟩
    · obtain ⟨o1, o2, o3⟩ := h.ow j y hj (by omega) hn'
      have hji : j ≠ i := by omega
      exact ⟨row_only o1 ho (fun b hb => hot hji hj b (.inl hb)), row_only o2 ho (fun b hb => hot hji hj b (.inr hb)), o3⟩
  refine hnew.pushOld hn (Rd.of h1 h2) hP (fun b hb => ?_) (fun j y hj hf' hn' b hb hb' => ?_)
  · rcases hb with hb | hb
    · exact ⟨(row_ge h1 b hb).1, Ty.row h1 hb⟩
    · exact ⟨(row_ge h2 b hb).1, Ty.row h2 hb⟩
  · have hlt := (h.bs y (List.mem_of_getElem? hj) b hb).2.lt
    exact h.sp i j e y b hi (Nat.le_refl _) hin hj (by omega) (hx b hb' hlt) hb
end Go.Proofs.YthlbbinlkmchjaaDoor
namespace Go.Proofs.YthlbbinlkmchjaaDoor
open Go.RowKit

theorem Blk.some_cell {W : World} {b : Nat} {cur : List Value} {t : TypeId} (h : Blk W b cur t) {i : Nat} (hi : i < cur.length) : ∃ v, W.cell? ⟨b, i, none⟩ = some v :=
  ⟨cur[i], (h.cell i).trans (List.getElem?_eq_getElem hi)⟩
theorem WB.only {W wr wx : World} {hb B : Nat} {vo vw vr vq : Value} {lo lw lr lq : List Value} {f g : Nat} {ns ms : List Nat} (h : WB W hb B vo vw vr vq lo lw lr lq f g ns ms wr) (ho : Only [] wr wx) : WB W hb B vo vw vr vq lo lw lr lq f g ns ms wx := by
  obtain ⟨es, e1, e2, e3, e4⟩ := h.es
  obtain ⟨rs, r1, r2, r3, r4⟩ := h.rs
  exact ⟨h.bk.still ho, ⟨es, e1, e2, e3, e4.keep ho (by simp)⟩, ⟨rs, r1, r2, r3, r4.keep ho (by simp)⟩, h.fr.trans (FrT.only ho (by have := h.bk.c.lt; have := h.bk.bb; omega))⟩
theorem Book.still {W W' : World} {hb B : Nat} {es rs : List En} {f g : Nat} (h : Book W hb B es rs f g) (k : Only [] W W') : Book W' hb B es rs f g := by
  obtain ⟨vo, vw, vr, vq, h1, h2, h3, h4⟩ := h
  exact ⟨vo, vw, vr, vq, h1.still k, h2.keep k (by simp), h3.keep k (by simp), h4⟩
theorem Bk.marks {W W1 : World} {hb B : Nat} {vo vw vr vq : Value} {lo lw lr lq : List Value} {f g a b : Nat} (h : Bk W hb B vo vw vr vq lo lw lr lq f g) (ho : Only [] W W1) :
    Bk ((W1.setCell ⟨hb, 4, none⟩ (.int .i64 a)).setCell ⟨hb, 5, none⟩ (.int .i64 b)) hb B vo vw vr vq lo lw lr lq a b ∧ Only [hb] W ((W1.setCell ⟨hb, 4, none⟩ (.int .i64 a)).setCell ⟨hb, 5, none⟩ (.int .i64 b)) := by
  have h1 := h.still ho
  have k := (set_hb W1 hb 4 (.int .i64 a)).trans (set_hb _ hb 5 (.int .i64 b))
  have hn : ∀ {t : TypeId} {v : Value} {n : Nat} {xs : List Value}, W1.ownsRow B t 1 v n xs → t ≠ 27 → ∀ q, v.ownBlock = some q → q ∉ [hb] := fun hr ht q hq hm => by
    have := List.mem_singleton.1 hm
    subst this
    exact row_not hr h1.c ht hq
  exact ⟨⟨(h1.c.set 4 (.int .i64 a)).set 5 (.int .i64 b), h.bb, row_only h1.ro k (hn h1.ro (by decide)), row_only h1.rw_ k (hn h1.rw_ (by decide)), row_only h1.rr k (hn h1.rr (by decide)), row_only h1.rq k (hn h1.rq (by decide)), h.a1, h.a2⟩, Only.behind ho k⟩

/-- a list grows beside its copy -/
structure GI (W2 wx : World) (B : Nat) (t : TypeId) (k : Nat) (e : En) (m1 : Nat) (c1 : List Value) (m2 : Nat) (c2 : List Value) (lv mv : Value) : Prop where
  o1 : wx.ownsRow B t k lv m1 c1
  o2 : wx.ownsRow B t k mv m2 c2
  ol : ∀ b, lv.ownBlock = some b → b < W2.heap.size → e.v.ownBlock = some b
  om : ∀ b, mv.ownBlock = some b → W2.heap.size ≤ b
  df : ∀ b, lv.ownBlock = some b → mv.ownBlock ≠ some b
  on : Only (ob e.v) W2 wx
  rd : Rd wx e
  ty : ∀ b, BS e b → Ty wx b t
theorem GI.still {W2 wx wa : World} {B : Nat} {t : TypeId} {k : Nat} {e : En} {m1 : Nat} {c1 : List Value} {m2 : Nat} {c2 : List Value} {lv mv : Value} (h : GI W2 wx B t k e m1 c1 m2 c2 lv mv) (ho : Only [] wx wa) : GI W2 wa B t k e m1 c1 m2 c2 lv mv :=
  ⟨row_only h.o1 ho (by simp), row_only h.o2 ho (by simp), h.ol, h.om, h.df, h.on.trans (ho.mono (by simp)), h.rd.keep ho (by simp), fun b hb => (h.ty b hb).keep ho (by simp)⟩
theorem grew_L {w w' : World} {v v' : Value} (g : Grew w w' v v') : ∃ L, Only L w w' ∧ ∀ b ∈ L, v'.ownBlock = some b := by
  rcases g with ⟨e, h⟩ | ⟨e, h⟩
  · exact ⟨ob v', only_grown (e ▸ h), fun b hb => mem_ob.1 hb⟩
  · exact ⟨[], ⟨h.os, h.tape, h.output, h.size, fun b hb _ => h.block b hb (by simp)⟩, by simp⟩
theorem GI.left {W2 wx w' : World} {B : Nat} {t : TypeId} {k : Nat} {e : En} {m1 : Nat} {X Y : List Value} {m2 : Nat} {c2 : List Value} {lv mv lv' : Value} (E1 : W2.ownsRow B t k e.v e.n e.cs) (E2 : W2.ownsRow B t k e.u e.n e.cs) (E3 : ∀ b, e.v.ownBlock = some b → e.u.ownBlock ≠ some b)
    (h : GI W2 wx B t k e m1 (e.cs ++ X) m2 c2 lv mv) (hr : w'.ownsRow B t k lv' (m1 + 1) (e.cs ++ X ++ Y)) (g : Grew wx w' lv lv') : GI W2 w' B t k e (m1 + 1) (e.cs ++ X ++ Y) m2 c2 lv' mv := by
  have k0 := only_grown g.grown
  obtain ⟨L, kL, hL⟩ := grew_L g
  have hsz := h.on.size
  refine ⟨hr, row_only h.o2 k0 (fun b hb hm => h.df b (mem_ob.1 hm) hb), fun b hb hlt => ?_, h.om, fun b hb hb' => ?_, only_grow h.on g.grown (fun b hb => ?_), ?_, fun b hb => ?_⟩
  · rcases g.ob b hb with q | q
    · exact h.ol b q hlt
    · omega
  · rcases g.ob b hb with q | q
    · exact h.df b q hb'
    · have := (row_ge h.o2 b hb').2; omega
  · rcases Nat.lt_or_ge b W2.heap.size with q | q
    · exact .inl (mem_ob.2 (h.ol b hb q))
    · exact .inr q
  · obtain ⟨⟨a, c, e1, s1⟩, a2, c2', e2, s2⟩ := h.rd
    refine ⟨⟨a, c, e1, ?_⟩, a2, c2', e2, s2.keep k0 (fun b off ea hm => ?_)⟩
    · by_cases hq : ∃ b, e.v.ownBlock = some b ∧ lv'.ownBlock = some b
      · obtain ⟨b, q1, q2⟩ := hq
        intro h0
        obtain ⟨b1, cc1, cur1, v1, -, -, -⟩ := own_at E1 h0
        obtain ⟨b2, cc2, cur2, v2, hB2, -, -⟩ := own_at hr (by omega)
        rw [v1] at q1 e1
        rw [v2] at q2 hr
        injection e1 with e1
        have p1 : b1 = b := Option.some.inj q1
        have p2 : b2 = b := Option.some.inj q2
        obtain ⟨b3, off, ea, ha⟩ := (row_sl hr) (by omega)
        injection ea with ea
        injection ea with ea1 ea2
        refine ⟨b, 0, by rw [← e1, p1], ?_⟩
        rw [← p2, ea1, show 0 = off from ea2]
        exact ha.take.take
      · refine s1.keep kL (fun b off ea hm => hq ⟨b, ?_, hL b hm⟩)
        rw [e1, ea]; rfl
    · have hbu : e.u.ownBlock = some b := by rw [e2, ea]; rfl
      have hlt := (row_ge E2 b hbu).2
      exact E3 b (h.ol b (mem_ob.1 hm) hlt) hbu
  · by_cases hm : b ∈ L
    · exact Ty.row hr (hL b hm)
    · exact (h.ty b hb).keep kL hm
theorem GI.right {W2 wx w' : World} {B : Nat} {t : TypeId} {k : Nat} {e : En} {m1 : Nat} {c1 : List Value} {m2 m3 : Nat} {c2 c3 : List Value} {lv mv mv' : Value} (E1 : W2.ownsRow B t k e.v e.n e.cs) (E2 : W2.ownsRow B t k e.u e.n e.cs)
    (h : GI W2 wx B t k e m1 c1 m2 c2 lv mv) (hr : w'.ownsRow B t k mv' m3 c3) (g : Grew wx w' mv mv') : GI W2 w' B t k e m1 c1 m3 c3 lv mv' := by
  have k0 := only_grown g.grown
  have hsz := h.on.size
  have hno : ∀ b, BS e b → b ∉ ob mv := fun b hb hm => by
    have h1 := h.om b (mem_ob.1 hm)
    rcases hb with hb | hb
    · have := (row_ge E1 b hb).2; omega
    · have := (row_ge E2 b hb).2; omega
  refine ⟨row_only h.o1 k0 (fun b hb hm => h.df b hb (mem_ob.1 hm)), hr, h.ol, fun b hb => ?_, fun b hb hb' => ?_, only_grow h.on g.grown (fun b hb => .inr (h.om b hb)), h.rd.keep k0 hno, fun b hb => (h.ty b hb).keep k0 (hno b hb)⟩
  · rcases g.ob b hb with q | q
    · exact h.om b q
    · omega
  · rcases g.ob b hb' with q | q
    · exact h.df b hb q
    · have := (row_ge h.o1 b hb).2; omega
theorem GI.start {W2 wx : World} {B : Nat} {t : TypeId} {k : Nat} {e : En} {mv : Value} (E1 : W2.ownsRow B t k e.v e.n e.cs) (E2 : W2.ownsRow B t k e.u e.n e.cs) (ho : Only [] W2 wx) (hm : wx.ownsRow B t k mv e.n e.cs) (hb : ∀ b, mv.ownBlock = some b → W2.heap.size ≤ b) :
    GI W2 wx B t k e e.n (e.cs ++ []) e.n (e.cs ++ []) e.v mv := by
  rw [List.append_nil]
  refine ⟨row_only E1 ho (by simp), hm, fun b h _ => h, hb, fun b h1 h2 => ?_, ho.mono (by simp), (Rd.of E1 E2).keep ho (by simp), fun b hb' => ?_⟩
  · have := (row_ge E1 b h1).2
    have := hb b h2
    omega
  · rcases hb' with h | h
    · exact (Ty.row E1 h).keep ho (by simp)
    · exact (Ty.row E2 h).keep ho (by simp)

def mkT (i : Nat) : HT := ⟨-4, i, 0, ⟨#[]⟩, ⟨#[]⟩, none, 0, 0, false⟩
def mkC (i : Nat) : Int × Int × Int := (-4, i, 0)
theorem rep_T (i j : Nat) : (List.replicate (j + 1) (mkT i)).flatMap htc = (List.replicate j (mkT i)).flatMap htc ++ [.int .i64 (-4), .int .i64 i, .int .i64 0, .string ⟨#[]⟩, .string ⟨#[]⟩, .slice none 0 0, .bool false] := by
  rw [List.replicate_succ', List.flatMap_append]; rfl
theorem rep_C (i j : Nat) : (List.replicate (j + 1) (mkC i)).flatMap cic = (List.replicate j (mkC i)).flatMap cic ++ [.int .i64 (-4), .int .i64 i, .int .i64 0] := by
  rw [List.replicate_succ', List.flatMap_append]; rfl
/-- the lists from i on are still to be let grow -/
structure GB7 (W : World) (hb B : Nat) (vr vq : Value) (lr lq : List Value) (f g : Nat) (rs : List En) (g0 n0 ne i : Nat) (vo vw : Value) (es : List En) (wr : World) : Prop where
  bk : Bk wr hb B vo vw vr vq (es.map (·.v)) (es.map (·.u)) lr lq f g
  ee : Ents wr B 48 7 PTk es i ne
  l1 : ne ≤ es.length
  l2 : es.length + f ≤ ne + i
  bd : ∀ (j : Nat) (e : En), es[j]? = some e → i ≤ j → j < ne → e.n ≤ 4294967296
  rr : Ents wr B 50 3 PCh rs g0 n0
  fr : FrT [27, 32, 44, 48, 50] B W wr
theorem GB7.next {W W2 wx wz : World} {hb B : Nat} {vr vq : Value} {lr lq : List Value} {f g : Nat} {rs : List En} {g0 n0 ne i : Nat} {vo vw vo' vw' lv mv : Value} {es : List En} {e : En} (h : GB7 W hb B vr vq lr lq f g rs g0 n0 ne i vo vw es W2) (hi : es[i]? = some e) (hin : i < ne)
    (hg : GI W2 wx B 48 7 e (e.n + 20) (e.cs ++ (List.replicate 20 (mkT i)).flatMap htc) (e.n + 20) (e.cs ++ (List.replicate 20 (mkT i)).flatMap htc) lv mv) (hbk : Bk wz hb B vo' vw' vr vq (es.map (·.v) ++ [lv]) (es.map (·.u) ++ [mv]) lr lq f g) (hf : FrT [27, 32] B wx wz) :
    ∃ es', GB7 W hb B vr vq lr lq f g rs g0 n0 ne (i + 1) vo' vw' es' wz := by
  obtain ⟨hs, h1, h2, h3⟩ := h.ee.sh e (List.mem_of_getElem? hi)
  have hbd := h.bd i e hi (Nat.le_refl _) hin
  obtain ⟨o1, o2, o3⟩ := h.ee.ow i e hi (Nat.le_refl _) hin
  have hgive := h.ee.give h.l1 hi hin hg.on (fun b hb' _ => .inl (mem_ob.1 hb')) hg.rd hg.ty (x := ⟨lv, mv, e.n + 20, e.cs ++ (List.replicate 20 (mkT i)).flatMap htc⟩) hg.o1 hg.o2 (fun b hb' hlt => by
    rcases hb' with hb' | hb'
    · exact .inl (hg.ol b hb' hlt)
    · have := hg.om b hb'; omega) ⟨hs ++ List.replicate 20 (mkT i), by simp; omega, by rw [List.flatMap_append, h2], by show e.n + 20 ≤ 8589934592; omega⟩
  have htv : ∀ b ∈ ob e.v, Ty W2 b 48 := fun b hb' => Ty.row o1 (mem_ob.1 hb')
  refine ⟨es ++ [⟨lv, mv, e.n + 20, e.cs ++ (List.replicate 20 (mkT i)).flatMap htc⟩], ?_, hgive.fr hf (by decide), ?_, ?_, fun j y hj q1 q2 => ?_, (h.rr.keep hg.on (fun b hb' => (htv b hb').ne (by decide))).fr hf (by decide), ?_⟩
  · rw [List.map_append, List.map_append]; exact hbk
  · have := h.l1; rw [List.length_append]; omega
  · have := h.l2; rw [List.length_append]; simp; omega
  · have := h.l1
    rw [List.getElem?_append_left (by omega)] at hj
    exact h.bd j y hj (by omega) q2
  · refine (h.fr.trans (FrT.of hg.on (by have := h.bk.c.lt; have := h.bk.bb; omega) (fun b hb' => ⟨(row_ge o1 b (mem_ob.1 hb')).1, fun _ => ⟨48, by simp, htv b hb'⟩⟩))).trans (hf.mono (by simp))
structure GB3 (W : World) (hb B : Nat) (vo vw : Value) (lo lw : List Value) (f g : Nat) (es : List En) (g0 n0 ne i : Nat) (vr vq : Value) (rs : List En) (wr : World) : Prop where
  bk : Bk wr hb B vo vw vr vq lo lw (rs.map (·.v)) (rs.map (·.u)) f g
  rr : Ents wr B 50 3 PCh rs i ne
  l1 : ne ≤ rs.length
  l2 : rs.length + g ≤ ne + i
  bd : ∀ (j : Nat) (e : En), rs[j]? = some e → i ≤ j → j < ne → e.n ≤ 4294967296
  ee : Ents wr B 48 7 PTk es g0 n0
  fr : FrT [27, 32, 44, 48, 50] B W wr
theorem GB3.next {W W2 wx wz : World} {hb B : Nat} {vo vw : Value} {lo lw : List Value} {f g : Nat} {es : List En} {g0 n0 ne i : Nat} {vr vq vr' vq' lv mv : Value} {rs : List En} {e : En} (h : GB3 W hb B vo vw lo lw f g es g0 n0 ne i vr vq rs W2) (hi : rs[i]? = some e) (hin : i < ne)
    (hg : GI W2 wx B 50 3 e (e.n + 20) (e.cs ++ (List.replicate 20 (mkC i)).flatMap cic) (e.n + 20) (e.cs ++ (List.replicate 20 (mkC i)).flatMap cic) lv mv) (hbk : Bk wz hb B vo vw vr' vq' lo lw (rs.map (·.v) ++ [lv]) (rs.map (·.u) ++ [mv]) f g) (hf : FrT [27, 44] B wx wz) :
    ∃ rs', GB3 W hb B vo vw lo lw f g es g0 n0 ne (i + 1) vr' vq' rs' wz := by
  obtain ⟨hs, h1, h2, h3⟩ := h.rr.sh e (List.mem_of_getElem? hi)
  have hbd := h.bd i e hi (Nat.le_refl _) hin
  obtain ⟨o1, o2, o3⟩ := h.rr.ow i e hi (Nat.le_refl _) hin
  have hgive := h.rr.give h.l1 hi hin hg.on (fun b hb' _ => .inl (mem_ob.1 hb')) hg.rd hg.ty (x := ⟨lv, mv, e.n + 20, e.cs ++ (List.replicate 20 (mkC i)).flatMap cic⟩) hg.o1 hg.o2 (fun b hb' hlt => by
    rcases hb' with hb' | hb'
    · exact .inl (hg.ol b hb' hlt)
    · have := hg.om b hb'; omega) ⟨hs ++ List.replicate 20 (mkC i), by simp; omega, by rw [List.flatMap_append, h2], by show e.n + 20 ≤ 8589934592; omega⟩
  have htv : ∀ b ∈ ob e.v, Ty W2 b 50 := fun b hb' => Ty.row o1 (mem_ob.1 hb')
  refine ⟨rs ++ [⟨lv, mv, e.n + 20, e.cs ++ (List.replicate 20 (mkC i)).flatMap cic⟩], ?_, hgive.fr hf (by decide), ?_, ?_, fun j y hj q1 q2 => ?_, (h.ee.keep hg.on (fun b hb' => (htv b hb').ne (by decide))).fr hf (by decide), ?_⟩
  · rw [List.map_append, List.map_append]; exact hbk
  · have := h.l1; rw [List.length_append]; omega
  · have := h.l2; rw [List.length_append]; simp; omega
  · have := h.l1
    rw [List.getElem?_append_left (by omega)] at hj
    exact h.bd j y hj (by omega) q2
  · refine (h.fr.trans (FrT.of hg.on (by have := h.bk.c.lt; have := h.bk.bb; omega) (fun b hb' => ⟨(row_ge o1 b (mem_ob.1 hb')).1, fun _ => ⟨50, by simp, htv b hb'⟩⟩))).trans (hf.mono (by simp))
end Go.Proofs.YthlbbinlkmchjaaDoor
