/- Rows of one's own: where they lie, how they grow; bytes among them, strings of them. -/
import Derived.Test.YtmlhibcbgdhadaaDoorSmall
import Derived.Test.YtmlhibcbgdhadaaDoorShelf
import Derived.Test.YtmlhibcbgdhadaaDoorEncsAll
import Derived.Maps.AppendAt
import Derived.Deep.AppendLies
import Derived.OwnWalk
import Derived.Laws.IdiomStrings
namespace Go.Proofs.YtmlhibcbgdhadaaDoor
open Go.RowKit


/-- the cells of a list of things of k cells each -/
theorem flat_get {α : Type} {enc : α → List Value} {k : Nat} (hk : ∀ x, (enc x).length = k) {x : α} {c : Nat} (hc : c < k) : ∀ {xs : List α} {i : Nat}, xs[i]? = some x → (xs.flatMap enc)[i * k + c]? = (enc x)[c]?
  | [], i, h => by simp at h
  | y :: ys, 0, h => by
    simp at h; subst h
    rw [List.flatMap_cons, Nat.zero_mul, Nat.zero_add, List.getElem?_append_left (by rw [hk]; exact hc)]
  | y :: ys, i + 1, h => by
    rw [List.flatMap_cons, List.getElem?_append_right (by rw [hk, Nat.add_mul]; omega), hk, show (i + 1) * k + c - k = i * k + c by rw [Nat.add_mul]; omega]
    exact flat_get hk hc (by simpa using h)
theorem flat_len {α : Type} {enc : α → List Value} {k : Nat} (hk : ∀ x, (enc x).length = k) : ∀ xs : List α, (xs.flatMap enc).length = xs.length * k
  | [] => by simp
  | x :: xs => by rw [List.flatMap_cons, List.length_append, hk, flat_len hk xs, List.length_cons, Nat.add_mul]; omega

/-- from place off of block b on these cells lie -/
def At (W : World) (b off : Nat) (cs : List Value) : Prop := b < W.heap.size ∧ ∀ j u, cs[j]? = some u → W.cell? ⟨b, off + j, none⟩ = some u
theorem At.keep {L : List Nat} {W W' : World} {b off : Nat} {cs : List Value} (h : At W b off cs) (k : Only L W W') (hn : b ∉ L) : At W' b off cs :=
  ⟨Nat.lt_of_lt_of_le h.1 k.size, fun j u hj => (World.cell?_of_block (w := W) (k.block b h.1 hn)).trans (h.2 j u hj)⟩
theorem At.of {W W' : World} {b off n : Nat} {cs : List Value} (h : At W b off cs) (k : Below n W W') (hn : b < n) : At W' b off cs :=
  ⟨Nat.lt_of_lt_of_le h.1 k.size, fun j u hj => (k.cell (p := ⟨b, off + j, none⟩) hn).trans (h.2 j u hj)⟩
theorem At.take {W : World} {b off : Nat} {xs ys : List Value} (h : At W b off (xs ++ ys)) : At W b off xs :=
  ⟨h.1, fun j u hj => h.2 j u (by
    have : j < xs.length := by
      rcases Nat.lt_or_ge j xs.length with g | g
      · exact g
      · rw [List.getElem?_eq_none g] at hj; cases hj
    rw [List.getElem?_append_left this]; exact hj)⟩
/-- a slice of n things at this address reads so -/
def Sl (W : World) (ad : Option Addr) (n : Nat) (cs : List Value) : Prop := n ≠ 0 → ∃ b off, ad = some ⟨b, off, none⟩ ∧ At W b off cs
theorem Sl.keep {L : List Nat} {W W' : World} {ad : Option Addr} {n : Nat} {cs : List Value} (h : Sl W ad n cs) (k : Only L W W') (hn : ∀ b off, ad = some ⟨b, off, none⟩ → b ∉ L) : Sl W' ad n cs := fun h0 => by
  obtain ⟨b, off, e, ha⟩ := h h0
  exact ⟨b, off, e, ha.keep k (hn b off e)⟩
theorem Sl.only {W W' : World} {ad : Option Addr} {n : Nat} {cs : List Value} (h : Sl W ad n cs) (k : Only [] W W') : Sl W' ad n cs := h.keep k (fun _ _ _ => by simp)
theorem Sl.below {W W' : World} {ad : Option Addr} {n : Nat} {cs : List Value} (h : Sl W ad n cs) (k : Below W.heap.size W W') : Sl W' ad n cs := h.only (Only.ofBelow k)
theorem Sl.nil {W : World} {ad : Option Addr} {cs : List Value} : Sl W ad 0 cs := fun h => absurd rfl h

/-- element i of a list that has it -/
theorem some_at {α : Type} {xs : List α} {i : Nat} (h : i < xs.length) : ∃ x, xs[i]? = some x := ⟨xs[i], List.getElem?_eq_getElem h⟩
/-- behind an append: the row's own block took it, or a new one did -/
def Grew (w w' : World) (v v' : Value) : Prop := (v'.ownBlock = v.ownBlock ∧ w.grownBy w' v.ownBlock) ∨ (v'.ownBlock = some w.heap.size ∧ w.grownBy w' none)
theorem Grew.grown {w w' : World} {v v' : Value} (h : Grew w w' v v') : w.grownBy w' v.ownBlock := by
  rcases h with ⟨_, h⟩ | ⟨_, h⟩
  · exact h
  · exact ⟨h.os, h.tape, h.output, h.size, fun k hk _ => h.block k hk (by simp)⟩

section
variable {P : Program}
theorem run_append_at (w : World) (base : Nat) (t ty e : TypeId) (i : TypeInfo) (z : Value) (size bytes : Nat) (ht : P.underlying t = some (.slice e)) (hi : P.info? e = some i) (hz : i.zero = some z)
    (hsize : i.size = size) (hby : i.bytes = bytes) (hzs : z.cells.size = size) (hsz : 0 < size)
    (v : Value) (n : Nat) (xs : List Value) (hown : w.ownsRow base e size v n xs)
    (a : Addr) (m c : Nat) (news : List Value) (hl : news.length = m * size) (hnews : ∀ j u, news[j]? = some u → w.cell? (a.add j) = some u) (h1 : ∀ u ∈ news, u.oneCell' = true)
    (h63 : n + m ≤ maxLen) (hbytes : (n + m) * bytes ≤ 140737488355328) (hbase : base ≤ w.heap.size) :
    ∃ v' w', (Builtin.append_ #[t, t] ty #[v, .slice (some a) m c]).run P w = .ok v' w' ∧ w'.ownsRow base e size v' (n + m) (xs ++ news) ∧ Grew w w' v v' := by
  obtain ⟨v', w', hr, ho, hg, _, hb⟩ := run_append_own_at (P := P) w base t ty e i z size bytes ht hi hz hsize hby hzs hsz v n xs hown a m c news hl hnews h1 h63 hbytes hbase
  refine ⟨v', w', hr, ho, ?_⟩
  rcases hb with hb | hb
  · exact .inl ⟨hb, hg⟩
  · refine .inr ⟨hb, ?_⟩
    have hsmall : n + m ≤ 9223372036854775807 := by simp only [maxLen] at h63; omega
    have new : ∀ o : Obj, w' = w.drew.alloc o → w.grownBy w' none := fun o e => by
      subst e
      exact ⟨rfl, rfl, rfl, by simp, fun k hk _ => Below.heap_alloc w.drew o k hk⟩
    rcases hown.2 with ⟨rfl, rfl⟩ | ⟨g, cap, cur, rfl, hbg, hgb, hnc, hcm, hcs, htk⟩
    · exact ⟨hg.os, hg.tape, hg.output, hg.size, fun k hk _ => hg.block k hk (by simp [Value.ownBlock])⟩
    · have hlt : g < w.heap.size := (hown.lt g rfl).2
      by_cases hroom : n + m ≤ cap
      · have hfit : n * i.size + news.length ≤ cur.size := by rw [hl, hcs, hsize, ← Nat.add_mul]; exact Nat.mul_le_mul_right _ hroom
        have h := run_append_room (P := P) w t ty e i ht hi g n cap cur hgb a m c news (by rw [hsize]; exact hl) hnews h1 hroom hfit
        rw [hr] at h
        cases h
        simp only [Value.ownBlock, Option.some.injEq] at hb
        omega
      · have holds : ∀ j u, xs[j]? = some u → w.cell? ((⟨g, 0, none⟩ : Addr).add j) = some u := hown.cells (g := g) rfl
        have h := run_append_grow (P := P) w t ty e i z ht hi hz ⟨g, 0, none⟩ n cap xs (by rw [hsize]; exact hown.1) holds a m c news (by rw [hsize]; exact hl) hnews (by omega) (by omega) (growslice_fits (by omega) (by rw [hby]; exact hbytes))
        rw [hr] at h
        injection h with h2 h3
        exact new _ h3
/-- of a list that came in -/
theorem run_append_sl (w : World) (base : Nat) (t ty e : TypeId) (i : TypeInfo) (z : Value) (size bytes : Nat) (ht : P.underlying t = some (.slice e)) (hi : P.info? e = some i) (hz : i.zero = some z)
    (hsize : i.size = size) (hby : i.bytes = bytes) (hzs : z.cells.size = size) (hsz : 0 < size)
    (v : Value) (n : Nat) (xs : List Value) (hown : w.ownsRow base e size v n xs)
    (ad : Option Addr) (m c : Nat) (news : List Value) (hl : news.length = m * size) (hnews : Sl w ad m news) (h1 : ∀ u ∈ news, u.oneCell' = true)
    (h63 : n + m ≤ maxLen) (hbytes : (n + m) * bytes ≤ 140737488355328) (hbase : base ≤ w.heap.size) :
    ∃ v' w', (Builtin.append_ #[t, t] ty #[v, .slice ad m c]).run P w = .ok v' w' ∧ w'.ownsRow base e size v' (n + m) (xs ++ news) ∧ Grew w w' v v' := by
  cases ad with
  | some a =>
    refine run_append_at w base t ty e i z size bytes ht hi hz hsize hby hzs hsz v n xs hown a m c news hl ?_ h1 h63 hbytes hbase
    intro j u hj
    have h0 : m ≠ 0 := fun e => by
      subst e
      have : news = [] := List.eq_nil_of_length_eq_zero (by rw [hl]; simp)
      rw [this] at hj; simp at hj
    obtain ⟨b, off, e, hb, ha⟩ := hnews h0
    cases e
    rw [Addr.add_lit]
    exact ha j u hj
  | none =>
    have h0 : m = 0 := by
      rcases Nat.eq_zero_or_pos m with q | q
      · exact q
      · obtain ⟨b, off, e, _⟩ := hnews (by omega); cases e
    subst h0
    have hn : news = [] := List.eq_nil_of_length_eq_zero (by rw [hl]; simp)
    subst hn
    refine ⟨v, w, ?_, by simpa using hown, .inl ⟨rfl, World.grownBy.refl _ _⟩⟩
    rcases hown.2 with ⟨rfl, rfl⟩ | ⟨g, cap, cur, rfl, _, _, hnc, _⟩
    · simp [Builtin.append_, run_underlying ht, sizeOf, typeInfo, hi, Builtin.lenOf, Builtin.firstCells]
    · simp [Builtin.append_, run_underlying ht, sizeOf, typeInfo, hi, Builtin.lenOf, Builtin.firstCells, hnc, storeCells]

theorem wp_append_sl (w : World) {o : Oper} {a : Act} {K : Act → World → Prop} {Q : Exit → Act → World → Prop} (s x : Operand) (t : TypeId)
    (ho : o.op = .call { callee := .builtin .append, args := #[s, x], argTypes := #[t, t] })
    (base : Nat) (e : TypeId) (i : TypeInfo) (z : Value) (size bytes : Nat) (ht : P.underlying t = some (.slice e)) (hi : P.info? e = some i) (hz : i.zero = some z)
    (hsize : i.size = size) (hby : i.bytes = bytes) (hzs : z.cells.size = size) (hsz : 0 < size)
    (v : Value) (n : Nat) (xs : List Value) (hs : a.eval s = v) (hown : w.ownsRow base e size v n xs)
    (ad : Option Addr) (m c : Nat) (news : List Value) (hx : a.eval x = .slice ad m c) (hl : news.length = m * size) (hnews : Sl w ad m news) (h1 : ∀ u ∈ news, u.oneCell' = true)
    (h63 : n + m ≤ maxLen) (hbytes : (n + m) * bytes ≤ 140737488355328) (hbase : base ≤ w.heap.size)
    (h : ∀ v' w', w'.ownsRow base e size v' (n + m) (xs ++ news) → Grew w w' v v' → K (a.put o.dst v') w') : o.wp P a w K Q := by
  obtain ⟨v', w', hr, h2, h3⟩ := run_append_sl (P := P) w base t o.type e i z size bytes ht hi hz hsize hby hzs hsz v n xs hown ad m c news hl hnews h1 h63 hbytes hbase
  unfold Oper.wp execOp
  simp only [ho, resolve, invoke, builtin, Sem.run_bind, Sem.run_pure, Result.andThen_ok, List.map_toArray, List.map_cons, List.map_nil, hs, hx, hr]
  exact h v' w' h2 h3
theorem wpList_append_sl (w : World) {ops : Array Oper} {rest : List Oper} {o : Oper} {a : Act} {Q : Exit → Act → World → Prop} (hgd : o.guard = none) (s x : Operand) (t : TypeId)
    (ho : o.op = .call { callee := .builtin .append, args := #[s, x], argTypes := #[t, t] })
    (base : Nat) (e : TypeId) (i : TypeInfo) (z : Value) (size bytes : Nat) (ht : P.underlying t = some (.slice e)) (hi : P.info? e = some i) (hz : i.zero = some z)
    (hsize : i.size = size) (hby : i.bytes = bytes) (hzs : z.cells.size = size) (hsz : 0 < size)
    (v : Value) (n : Nat) (xs : List Value) (hs : a.eval s = v) (hown : w.ownsRow base e size v n xs)
    (ad : Option Addr) (m c : Nat) (news : List Value) (hx : a.eval x = .slice ad m c) (hl : news.length = m * size) (hnews : Sl w ad m news) (h1 : ∀ u ∈ news, u.oneCell' = true)
    (h63 : n + m ≤ maxLen) (hbytes : (n + m) * bytes ≤ 140737488355328) (hbase : base ≤ w.heap.size)
    (h : ∀ v' w', w'.ownsRow base e size v' (n + m) (xs ++ news) → Grew w w' v v' → wpList P ops Q rest (a.put o.dst v') w') : wpList P ops Q (o :: rest) a w :=
  wpList_plain hgd fun _ hK => wp_append_sl w s x t ho base e i z size bytes ht hi hz hsize hby hzs hsz v n xs hs hown ad m c news hx hl hnews h1 h63 hbytes hbase fun v' w' h2 h3 => hK _ _ (h v' w' h2 h3)
theorem step_append_sl (w : World) {ops : Array Oper} {o : Oper} {a : Act} {K : Act → World → Prop} {Q : Exit → Act → World → Prop} {E : Prop} (hgd : o.guard = none) (s x : Operand) (t : TypeId)
    (ho : o.op = .call { callee := .builtin .append, args := #[s, x], argTypes := #[t, t] })
    (base : Nat) (e : TypeId) (i : TypeInfo) (z : Value) (size bytes : Nat) (ht : P.underlying t = some (.slice e)) (hi : P.info? e = some i) (hz : i.zero = some z)
    (hsize : i.size = size) (hby : i.bytes = bytes) (hzs : z.cells.size = size) (hsz : 0 < size)
    (v : Value) (n : Nat) (xs : List Value) (hs : a.eval s = v) (hown : w.ownsRow base e size v n xs)
    (ad : Option Addr) (m c : Nat) (news : List Value) (hx : a.eval x = .slice ad m c) (hl : news.length = m * size) (hnews : Sl w ad m news) (h1 : ∀ u ∈ news, u.oneCell' = true)
    (h63 : n + m ≤ maxLen) (hbytes : (n + m) * bytes ≤ 140737488355328) (hbase : base ≤ w.heap.size)
    (h : ∀ v' w', w'.ownsRow base e size v' (n + m) (xs ++ news) → Grew w w' v v' → K (a.put o.dst v') w') :
    if Region.wanted o (yielded ops a.tmps) = true then Oper.wp P o a w K Q else E := by
  have hw : Region.wanted o (yielded ops a.tmps) = true := by simp [Region.wanted, hgd]
  rw [if_pos hw]
  exact wp_append_sl w s x t ho base e i z size bytes ht hi hz hsize hby hzs hsz v n xs hs hown ad m c news hx hl hnews h1 h63 hbytes hbase h
end
/-- a cell of an owned row is written -/
theorem row_put {w : World} {base size n c : Nat} {e : TypeId} {ad : Option Addr} {xs : List Value} (h : w.ownsRow base e size (.slice ad n c) n xs) {k : Nat} (hk : k < n * size) :
    ∃ b cur, ad = some ⟨b, 0, none⟩ ∧ Blk w b cur e ∧ (∃ u, w.cell? ⟨b, k, none⟩ = some u) ∧ ∀ v, (w.setCell ⟨b, k, none⟩ v).ownsRow base e size (.slice ad n c) n (xs.set k v) := by
  obtain ⟨hl, hr⟩ := h
  rcases hr with ⟨e1, e2⟩ | ⟨g, cap, cur, e1, hb, hh, hnc, hcm, hs, hx⟩
  · subst e2; omega
  · cases e1
    have hle : n * size ≤ c * size := Nat.mul_le_mul_right _ hnc
    have hB : Blk w g cur.toList e := by simpa [Blk] using hh
    have hkl : k < cur.toList.length := by simp; omega
    refine ⟨g, cur.toList, rfl, hB, ⟨_, (hB.cell k).trans (List.getElem?_eq_getElem hkl)⟩, fun v => ⟨by rw [List.length_set]; exact hl, .inr ⟨g, c, (cur.toList.set k v).toArray, rfl, hb, hB.set k v, hnc, hcm, by simp; omega, ?_⟩⟩⟩
    rw [List.take_set, hx]
theorem only_grow {L : List Nat} {w X X' : World} {v : Value} (h : Only L w X) (k : X.grownBy X' v.ownBlock) (hv : ∀ b, v.ownBlock = some b → b ∈ L ∨ w.heap.size ≤ b) : Only L w X' :=
  ⟨k.os.trans h.os, k.tape.trans h.tape, k.output.trans h.output, Nat.le_trans h.size k.size, fun q hq hn => (k.block q (Nat.lt_of_lt_of_le hq h.size) (fun e => by
    rcases hv q e.symm with q1 | q1
    · exact hn q1
    · omega)).trans (h.block q hq hn)⟩
theorem sl_newest (W : World) (cs : List Value) (t : TypeId) {k n : Nat} (hk : W.heap.size = k) : Sl (W.alloc (.cells cs.toArray t)) (some ⟨k, 0, none⟩) n cs := fun _ => by
  subst hk
  exact ⟨_, 0, rfl, by simp, fun j u hj => by
    rw [Nat.zero_add]
    exact ((Blk.new W cs.toArray t rfl).cell j).trans hj⟩
/-- all blocks of a slice lie from B on, below C -/
def Own (B C : Nat) (ad : Option Addr) : Prop := ∀ b off, ad = some ⟨b, off, none⟩ → B ≤ b ∧ b < C
theorem row_reads {w : World} {base size n : Nat} {e : TypeId} {v : Value} {xs : List Value} (h : w.ownsRow base e size v n xs) :
    ∃ ad cap, v = .slice ad n cap ∧ Sl w ad n xs ∧ Own base w.heap.size ad := by
  rcases h.2 with ⟨rfl, rfl⟩ | ⟨g, cap, cur, rfl, hb, hh, hn, hm, hs, hx⟩
  · exact ⟨none, 0, rfl, Sl.nil, fun b off e => by cases e⟩
  · have hlt : g < w.heap.size := by
      rcases Nat.lt_or_ge g w.heap.size with q | q
      · exact q
      · rw [Array.getElem?_eq_none q] at hh; cases hh
    refine ⟨_, cap, rfl, fun _ => ⟨g, 0, rfl, hlt, fun j u hj => ?_⟩, fun b off e => by cases e; exact ⟨hb, hlt⟩⟩
    rw [← hx, List.getElem?_take] at hj
    split at hj
    · simp only [World.cell?, hh, Nat.zero_add]
      simpa using hj
    · cases hj
def u8s (bs : List Nat) : List Value := bs.map fun (b : Nat) => .int .u8 (b : Int)
theorem u8s_len (bs : List Nat) : (u8s bs).length = bs.length := by simp [u8s]
theorem u8s_app (a b : List Nat) : u8s (a ++ b) = u8s a ++ u8s b := by simp [u8s]
/-- a string of these bytes -/
def strN (bs : List Nat) : ByteArray := ⟨(bs.map UInt8.ofNat).toArray⟩
theorem bl_strN (bs : List Nat) (h : ∀ b ∈ bs, b < 256) : bl (strN bs) = bs := by
  unfold bl strN
  simp only [List.map_map]
  conv => rhs; rw [← List.map_id bs]
  apply List.map_congr_left
  intro b hb
  have := h b hb
  simp [UInt8.toNat_ofNat']
  omega

/-! ### -/
theorem row_only {L : List Nat} {w w' : World} {B n size : Nat} {e : TypeId} {v : Value} {xs : List Value} (h : w.ownsRow B e size v n xs) (k : Only L w w') (hn : ∀ b, v.ownBlock = some b → b ∉ L) : w'.ownsRow B e size v n xs := by
  refine ⟨h.1, ?_⟩
  rcases h.2 with h2 | ⟨g, cap, cur, rfl, hb, hh, h3, h4, h5, h6⟩
  · exact .inl h2
  · have hlt : g < w.heap.size := by
      rcases Nat.lt_or_ge g w.heap.size with q | q
      · exact q
      · rw [Array.getElem?_eq_none q] at hh; cases hh
    exact .inr ⟨g, cap, cur, rfl, hb, (k.block g hlt (hn g rfl)).trans hh, h3, h4, h5, h6⟩
theorem row_ge {w : World} {B n size : Nat} {e : TypeId} {v : Value} {xs : List Value} (h : w.ownsRow B e size v n xs) : ∀ b, v.ownBlock = some b → B ≤ b ∧ b < w.heap.size := fun b hb => h.lt b hb
/-- a row of bytes of one's own -/
def RB (w : World) (B : Nat) (v : Value) (bs : List Nat) : Prop := w.ownsRow B 5 1 v bs.length (u8s bs)
theorem RB.str {w : World} {B : Nat} {v : Value} {bs : List Nat} (h : RB w B v bs) (h256 : ∀ b ∈ bs, b < 256) : (convert 50 9 v).run Tryd.prog w = .ok (.string (strN bs)) w := by
  obtain ⟨ad, cap, rfl, hs, _⟩ := row_reads h
  rcases ad with _ | a
  · have h0 : bs = [] := by
      rcases bs with _ | ⟨b, t⟩
      · rfl
      · obtain ⟨b, off, e, _⟩ := hs (by simp); cases e
    subst h0
    exact run_convert_bytes_nil w 50 5 Tryd.underlying50 Tryd.underlying5 _ _ 9 Tryd.underlying9
  · have := run_convert_bytes_back (P := Tryd.prog) w 50 9 5 a cap (bs.map UInt8.ofNat) Tryd.underlying50 Tryd.underlying5 Tryd.underlying9 (fun j hj => by
      have hj' : j < bs.length := by simpa using hj
      obtain ⟨b, off, e, ha⟩ := hs (by omega)
      cases e
      rw [Addr.add_lit]
      refine ha.2 j _ ?_
      unfold u8s
      rw [List.getElem?_map, List.getElem?_eq_getElem hj']
      have := h256 _ (List.getElem_mem hj')
      simp [UInt8.toNat_ofNat']
      omega)
    rw [List.length_map] at this
    exact this
theorem runeCells_enc {r : Nat} (h : isRune r = true) : Lib.runeCells (r : Int) = u8s (enc r) := by
  unfold isRune at h
  simp at h
  unfold Lib.runeCells u8s enc Lib.encodeRuneZ
  by_cases h1 : r < 128
  · rw [if_pos (by omega), if_pos h1]; rfl
  rw [if_neg (by omega), if_neg h1]
  by_cases h2 : r < 2048
  · rw [if_pos (by omega), if_pos h2]; simp
  rw [if_neg (by omega), if_neg h2]
  by_cases h3 : r < 65536
  · rw [if_pos (by omega), if_pos h3]; simp
  rw [if_neg (by omega), if_neg h3, if_pos (by omega)]
  simp
/-- a rune is appended -/
theorem appendRune_any {w : World} {B : Nat} {v : Value} {bs : List Nat} (h : RB w B v bs) {r : Nat} (hr : isRune r = true) (hlen : bs.length ≤ 1099511627776) (hB : B ≤ w.heap.size) :
    Calls Tryd.prog 77 #[v, .int .i32 r] w fun e w' => ∃ v', e = .returned v' ∧ RB w' B v' (bs ++ enc r) ∧ ∃ o, (w.alloc o).grownBy w' v.ownBlock := by
  have hr2 : r ≤ 1114111 := by unfold isRune at hr; simp at hr; exact hr.1
  refine (Tryd.utf8_AppendRune_plain B v bs.length (u8s bs) r (by omega) (by omega) w h (by omega) hB).mono ?_
  rintro e w' ⟨v', rfl, h1, h2⟩
  refine ⟨v', rfl, ?_, h2⟩
  unfold RB
  rw [runeCells_enc hr, u8s_len] at h1
  rw [u8s_app, List.length_append]
  exact h1

theorem info_parts {t : TypeId} {z : Value} {n b : Nat} (h : (Tryd.prog.info? t).map (fun i => (i.zero, i.size, i.bytes)) = some (some z, n, b)) : ∃ i, Tryd.prog.info? t = some i ∧ i.zero = some z ∧ i.size = n ∧ i.bytes = b := by
  rcases hi : Tryd.prog.info? t with _ | i
  · rw [hi] at h; cases h
  · rw [hi] at h
    simp only [Option.map_some, Option.some.injEq, Prod.mk.injEq] at h
    exact ⟨i, rfl, h.1, h.2.1, h.2.2⟩
/-- the blocks of a row -/
def ob (v : Value) : List Nat := v.ownBlock.toList
theorem mem_ob {v : Value} {b : Nat} : b ∈ ob v ↔ v.ownBlock = some b := by
  unfold ob
  rcases v.ownBlock with _ | c
  · simp
  · simp [eq_comm]
theorem row_block {w : World} {B n size : Nat} {e : TypeId} {v : Value} {xs : List Value} (h : w.ownsRow B e size v n xs) {b : Nat} (hb : v.ownBlock = some b) : ∃ cur : Array Value, w.heap[b]? = some (.cells cur e) := by
  rcases h.2 with ⟨rfl, _⟩ | ⟨g, cap, cur, rfl, _, hh, _⟩
  · cases hb
  · cases hb; exact ⟨cur, hh⟩
theorem row_not {w : World} {B n size b : Nat} {e t : TypeId} {v : Value} {xs ys : List Value} (h : w.ownsRow B e size v n xs) (k : Blk w b ys t) (hne : e ≠ t) : v.ownBlock ≠ some b := by
  intro hb
  obtain ⟨cur, h1⟩ := row_block h hb
  unfold Blk at k
  rw [h1] at k
  simp at k
  exact hne k.2
theorem row_row {w : World} {B B' n n' size size' b : Nat} {e t : TypeId} {v v' : Value} {xs ys : List Value} (h : w.ownsRow B e size v n xs) (k : w.ownsRow B' t size' v' n' ys) (hne : e ≠ t) (hb : v.ownBlock = some b) : v'.ownBlock ≠ some b := by
  intro hb'
  obtain ⟨cur, h1⟩ := row_block h hb
  obtain ⟨cur', h2⟩ := row_block k hb'
  rw [h1] at h2
  simp at h2
  exact hne h2.2

/-- block b is of type t -/
def Ty (W : World) (b : Nat) (t : TypeId) : Prop := ∃ cur : Array Value, W.heap[b]? = some (.cells cur t (0, 0))
theorem Ty.lt {W : World} {b : Nat} {t : TypeId} (h : Ty W b t) : b < W.heap.size := by
  obtain ⟨cur, h⟩ := h
  rcases Nat.lt_or_ge b W.heap.size with g | g
  · exact g
  · rw [Array.getElem?_eq_none g] at h; cases h
theorem Ty.ne {W : World} {b : Nat} {t u : TypeId} (h : Ty W b t) (hne : t ≠ u) : ¬ Ty W b u := by
  obtain ⟨cur, h⟩ := h
  rintro ⟨cur', h'⟩
  rw [h] at h'
  simp at h'
  exact hne h'.2
theorem Ty.keep {L : List Nat} {W W' : World} {b : Nat} {t : TypeId} (h : Ty W b t) (k : Only L W W') (hn : b ∉ L) : Ty W' b t := by
  obtain ⟨cur, g⟩ := h
  exact ⟨cur, (k.block b (Ty.lt ⟨cur, g⟩) hn).trans g⟩
theorem Ty.row {w : World} {B n size : Nat} {e : TypeId} {v : Value} {xs : List Value} (h : w.ownsRow B e size v n xs) {b : Nat} (hb : v.ownBlock = some b) : Ty w b e := row_block h hb
theorem Ty.blk {w : World} {b : Nat} {xs : List Value} {t : TypeId} (h : Blk w b xs t) : Ty w b t := ⟨_, h⟩


end Go.Proofs.YtmlhibcbgdhadaaDoor
