/- The cutter with its tokens in memory; a token laid down. -/
import Derived.Test.YthlbbinlkmchjaaDoorTok
namespace Go.Proofs.YthlbbinlkmchjaaDoor
open Go.RowKit

def chc (x : Nat × Nat × Nat) : List Value := [.int .i64 x.1, .int .i64 x.2.1, .int .i64 x.2.2]
theorem chc_len (x : Nat × Nat × Nat) : (chc x).length = 3 := rfl
/-- what a token has in memory -/
structure Tm where
  nm : ByteArray
  vl : ByteArray
  cv : Value
def tmc (x : Tk × Tm) : List Value := tkc x.1.kd x.1.at_ x.1.en x.2.nm x.2.vl x.1.em x.2.cv
theorem tmc_len (x : Tk × Tm) : (tmc x).length = 7 := rfl
structure Rl (w : World) (B : Nat) (x : Tk × Tm) : Prop where
  nm : bl x.2.nm = x.1.nm
  vl : bl x.2.vl = x.1.vl
  ch : w.ownsRow B 50 3 x.2.cv x.1.ch.length (x.1.ch.flatMap chc)
def cbs (xs : List (Tk × Tm)) : List Nat := xs.filterMap fun x => x.2.cv.ownBlock
/-- a list of tokens that was handed out: its row, the rows in it, each a block of its own -/
structure TL (w : World) (B : Nat) (tv : Value) (xs : List (Tk × Tm)) : Prop where
  row : w.ownsRow B 48 7 tv xs.length (xs.flatMap tmc)
  rel : ∀ x ∈ xs, Rl w B x
  ap : (cbs xs).Nodup
theorem row_block {w : World} {B n size : Nat} {e : TypeId} {v : Value} {xs : List Value} (h : w.ownsRow B e size v n xs) {b : Nat} (hb : v.ownBlock = some b) : ∃ cur : Array Value, w.heap[b]? = some (.cells cur e) := by
  rcases h.2 with ⟨rfl, _⟩ | ⟨g, cap, cur, rfl, _, hh, _⟩
  · cases hb
  · cases hb; exact ⟨cur, hh⟩
theorem row_not {w : World} {B n size b : Nat} {e t : TypeId} {v : Value} {xs ys : List Value} (h : w.ownsRow B e size v n xs) (k : Blk w b ys t) (hne : e ≠ t) : v.ownBlock ≠ some b := by
  intro hb
  obtain ⟨cur, h1⟩ := row_block h hb
  unfold Blk at k
  rw [h1] at k
  simp at k
  exact hne k.2
theorem row_row {w : World} {B B' n n' size size' b : Nat} {e t : TypeId} {v v' : Value} {xs ys : List Value} (h : w.ownsRow B e size v n xs) (k : w.ownsRow B' t size' v' n' ys) (hne : e ≠ t) (hb : v.ownBlock = some b) : v'.ownBlock ≠ some b := by
  intro hb'
  obtain ⟨cur, h1⟩ := row_block h hb
  obtain ⟨cur', h2⟩ := row_block k hb'
  rw [h1] at h2
  simp at h2
  exact hne h2.2
theorem mem_cbs {xs : List (Tk × Tm)} {b : Nat} : b ∈ cbs xs ↔ ∃ x ∈ xs, x.2.cv.ownBlock = some b := by
  unfold cbs; rw [List.mem_filterMap]
theorem TL.only {L : List Nat} {w w' : World} {B : Nat} {tv : Value} {xs : List (Tk × Tm)} (h : TL w B tv xs) (k : Only L w w') (h1 : ∀ b, tv.ownBlock = some b → b ∉ L) (h2 : ∀ b ∈ cbs xs, b ∉ L) : TL w' B tv xs :=
  ⟨row_only h.row k h1, fun x hx => ⟨(h.rel x hx).nm, (h.rel x hx).vl, row_only (h.rel x hx).ch k fun b hb => h2 b (mem_cbs.2 ⟨x, hx, hb⟩)⟩, h.ap⟩
/-- the cutter in the midst of a scan -/
structure Sc (w0 w : World) (cb mb : Nat) (s : ByteArray) (p : Nat) (m : M) (xs : List (Tk × Tm)) (tv : Value) : Prop where
  cu : Cu w cb mb s p tv m
  tl : TL w w0.heap.size tv xs
  fr : Only [mb] w0 w
  nw : w0.heap.size ≤ cb
  len : xs.length ≤ p
  tc : Tc w0
  m3 : 3 ≤ mb
theorem Sc.b3 {w0 w : World} {cb mb : Nat} {s : ByteArray} {p : Nat} {m : M} {xs : List (Tk × Tm)} {tv : Value} (h : Sc w0 w cb mb s p m xs tv) : 3 ≤ cb ∧ 3 ≤ mb :=
  ⟨Nat.le_trans h.tc.tb.size h.nw, h.m3⟩
theorem Sc.tcw {w0 w : World} {cb mb : Nat} {s : ByteArray} {p : Nat} {m : M} {xs : List (Tk × Tm)} {tv : Value} (h : Sc w0 w cb mb s p m xs tv) : Tc w :=
  h.tc.only h.fr (by have := h.m3; simp; exact this)
theorem Sc.apart {w0 w : World} {cb mb : Nat} {s : ByteArray} {p : Nat} {m : M} {xs : List (Tk × Tm)} {tv : Value} (h : Sc w0 w cb mb s p m xs tv) :
    tv.ownBlock ≠ some cb ∧ tv.ownBlock ≠ some mb ∧ cb ∉ cbs xs ∧ mb ∉ cbs xs := by
  refine ⟨row_not h.tl.row h.cu.c (by decide), row_not h.tl.row h.cu.mt (by decide), ?_, ?_⟩
  · intro hb
    obtain ⟨x, hx, hxb⟩ := mem_cbs.1 hb
    exact row_not (h.tl.rel x hx).ch h.cu.c (by decide) hxb
  · intro hb
    obtain ⟨x, hx, hxb⟩ := mem_cbs.1 hb
    exact row_not (h.tl.rel x hx).ch h.cu.mt (by decide) hxb
/-- a call that turns the cutter and the meter alone -/
theorem Sc.on {w0 w w' : World} {cb mb : Nat} {s : ByteArray} {p q : Nat} {m m' : M} {xs : List (Tk × Tm)} {tv : Value} (h : Sc w0 w cb mb s p m xs tv) (hc : Cu w' cb mb s q tv m') (ho : Only [cb, mb] w w') (hq : p ≤ q) : Sc w0 w' cb mb s q m' xs tv := by
  obtain ⟨a1, a2, a3, a4⟩ := h.apart
  refine ⟨hc, h.tl.only ho (fun b hb hm => ?_) (fun b hb hm => ?_), h.fr.fresh ho (fun i hi hlt => ?_), h.nw, Nat.le_trans h.len hq, h.tc, h.m3⟩
  · simp at hm; rcases hm with rfl | rfl
    · exact a1 hb
    · exact a2 hb
  · simp at hm; rcases hm with rfl | rfl
    · exact a3 hb
    · exact a4 hb
  · simp at hi; rcases hi with rfl | rfl
    · have := h.nw; omega
    · simp
theorem Sc.off {w0 w w' : World} {cb mb : Nat} {s : ByteArray} {p : Nat} {m : M} {xs : List (Tk × Tm)} {tv : Value} (h : Sc w0 w cb mb s p m xs tv) (ho : Only [cb, mb] w w') : Only [mb] w0 w' :=
  h.fr.fresh ho (fun i hi hlt => by
    simp at hi; rcases hi with rfl | rfl
    · have := h.nw; omega
    · simp)
theorem Sc.still {w0 w w' : World} {cb mb : Nat} {s : ByteArray} {p : Nat} {m : M} {xs : List (Tk × Tm)} {tv : Value} (h : Sc w0 w cb mb s p m xs tv) (ho : Only [] w w') : Sc w0 w' cb mb s p m xs tv :=
  h.on (h.cu.only ho) (ho.mono (by simp)) (Nat.le_refl _)

/-- a token is laid down -/
theorem token_s {w0 w : World} {cb mb : Nat} {s : ByteArray} {q : Nat} {m : M} {xs : List (Tk × Tm)} {tv : Value} (h : Sc w0 w cb mb s q m xs tv) (t : Tk) (u : Tm) (hnm : bl u.nm = t.nm) (hvl : bl u.vl = t.vl)
    (hch : w.ownsRow w0.heap.size 50 3 u.cv t.ch.length (t.ch.flatMap chc)) (hnew : ∀ b, u.cv.ownBlock = some b → b ∉ cbs xs) (hlen : xs.length + 1 ≤ q) (en : Int) :
    Calls Tryd.prog 89 #[.pointer (some ⟨cb, 0, none⟩), .agg #[.int .i64 t.kd, .int .i64 t.at_, .int .i64 en, .string u.nm, .string u.vl, u.cv, .bool t.em]] w fun e w' =>
      (m.holdOk 1 = true → e = .returned (.bool true) ∧ ∃ tv', Sc w0 w' cb mb s q (m.hold 1) (xs ++ [({ t with en := q }, u)]) tv') ∧
      (m.holdOk 1 = false → e = .returned (.bool false) ∧ Cx w' cb mb s (m.hold 1) (21, 0) ∧ Only [mb] w0 w') := by
  obtain ⟨a1, a2, a3, a4⟩ := h.apart
  have hqs := h.cu.le
  have hsz := h.cu.sz
  have hcv : ∃ ad l c, u.cv = .slice ad l c := by
    obtain ⟨ad, c, e, _⟩ := row_reads hch
    exact ⟨ad, _, c, e⟩
  refine (token_c h.cu h.tl.row h.fr.size a1 a2 (by omega) t.kd t.at_ en u.nm u.vl t.em hcv).mono ?_
  rintro e w' ⟨h1, h2⟩
  refine ⟨fun hh => ?_, fun hh => ?_⟩
  · obtain ⟨rfl, ⟨tv', hcu, hrow, hbl⟩, ho⟩ := h1 hh
    refine ⟨rfl, tv', hcu, ⟨?_, ?_, ?_⟩, ?_, h.nw, by rw [List.length_append]; exact hlen, h.tc, h.m3⟩
    · rw [List.length_append, List.flatMap_append]
      simpa [tmc] using hrow
    · have key : ∀ (y : Tk × Tm), Rl w w0.heap.size y → Rl w' w0.heap.size y := fun y hy => ⟨hy.nm, hy.vl, row_only hy.ch ho fun b hb hm => by
        simp only [List.mem_cons, mem_ob] at hm
        rcases hm with rfl | rfl | hm
        · exact row_not hy.ch h.cu.c (by decide) hb
        · exact row_not hy.ch h.cu.mt (by decide) hb
        · exact row_row hy.ch h.tl.row (by decide) hb hm⟩
      intro x hx
      rcases List.mem_append.1 hx with hx | hx
      · exact key x (h.tl.rel x hx)
      · simp at hx
        subst hx
        exact key _ ⟨hnm, hvl, hch⟩
    · unfold cbs at *
      rw [List.filterMap_append, List.nodup_append]
      refine ⟨h.tl.ap, ?_, ?_⟩
      · simp only [List.filterMap_cons, List.filterMap_nil]
        split <;> simp
      · intro b hb c hc e
        subst e
        simp only [List.filterMap_cons, List.filterMap_nil] at hc
        split at hc
        · simp at hc
        · rename_i d hd
          simp at hc
          subst hc
          exact hnew _ hd hb
    · refine h.fr.fresh ho fun i hi hlt => ?_
      simp only [List.mem_cons, mem_ob] at hi
      rcases hi with rfl | rfl | hi
      · have := h.nw; omega
      · simp
      · have := (row_ge h.tl.row i hi).1; omega
  · obtain ⟨rfl, hx, ho⟩ := h2 hh
    exact ⟨rfl, hx, h.off ho⟩
end Go.Proofs.YthlbbinlkmchjaaDoor
