/- What Get tells and what the reference tells, in one form. -/
import Derived.Test.YtdinlaoimpoolaaSpoils
import Derived.Test.YtdinlaoimpoolaaRefGet
import Derived.Test.YtdinlaoimpoolaaGreat
namespace Go.Proofs.Ytdinlaoimpoolaa
open Go.RowKit

theorem holdN_snd : ∀ (k : Nat) (m : M) (s t : St), (holdN k m s).2 = .inr t → t = s
  | 0, m, s, t, h => by cases h; rfl
  | k + 1, m, s, t, h => by
    unfold holdN at h
    split at h
    · exact holdN_snd k _ s t h
    · cases h
theorem getM_good : ∀ (bs : List Nat) (m : M) (s t : St) (i : Nat), (∀ b ∈ bs, b < 256) → Good s → Num s → (getM m s i bs).2 = .inr t → Good t ∧ t.nx = 16
  | [], m, s, t, i, _, G, _, h => by
    unfold getM at h
    split at h
    · rename_i h16
      obtain rfl := holdN_snd _ _ _ _ h
      exact ⟨G, h16⟩
    · cases h
  | c :: cs, m, s, t, i, hb, G, N, h => by
    unfold getM at h
    split at h
    · split at h
      · cases h
      · rename_i s' hs'
        obtain ⟨G', N'⟩ := took G N (hb c (by simp)) hs'
        exact getM_good cs _ s' t _ (fun x hx => hb x (by simp [hx])) G' N' h
    · cases h
/-- the two rows of a font -/
def Rows2 (W : World) (base : Nat) (gs : List Gl) (ps : List Pr) (ag : Option Addr) (ca : Nat) (ap : Option Addr) (cb : Nat) : Prop :=
  W.ownsRow base 33 4 (.slice ag gs.length ca) gs.length (gs.flatMap cg) ∧ W.ownsRow base 35 5 (.slice ap ps.length cb) ps.length (ps.flatMap cp)
def Out (w w' : World) (em : Int) (gs : List Gl) (ps : List Pr) (k a : Int) (e : Ending) : Prop :=
  ∃ ag ca ap cb, e = .returned (.tuple #[.agg #[.int .i64 em, .slice ag gs.length ca, .slice ap ps.length cb], .agg #[.int .i64 k, .int .i64 a]]) ∧ Rows2 w' w.heap.size gs ps ag ca ap cb
/-- the blocks of a font's rows -/
def Lx (ag : Option Addr) (n ca : Nat) (ap : Option Addr) (m cb : Nat) : List Nat := (Value.slice ag n ca).ownBlock.toList ++ (Value.slice ap m cb).ownBlock.toList
section
variable {W : World} {base : Nat} {gs : List Gl} {ps : List Pr} {ag ap : Option Addr} {ca cb : Nat}
theorem Rows2.below {W' : World} (h : Rows2 W base gs ps ag ca ap cb) (k : Below W.heap.size W W') : Rows2 W' base gs ps ag ca ap cb := ⟨own_below h.1 k, own_below h.2 k⟩
theorem Rows2.only {W' : World} {b : Nat} {xs : List Value} {t : TypeId} (h : Rows2 W base gs ps ag ca ap cb) (k : Only [b] W W') (hB : Blk W b xs t) (h1 : t ≠ 33) (h2 : t ≠ 35) : Rows2 W' base gs ps ag ca ap cb :=
  ⟨row_keep2 h.1 k (by intro q hq hm; rw [List.mem_singleton] at hm; subst hm; exact own_ne h.1 hB (Ne.symm h1) hq), row_keep2 h.2 k (by intro q hq hm; rw [List.mem_singleton] at hm; subst hm; exact own_ne h.2 hB (Ne.symm h2) hq)⟩
theorem Rows2.mem (h : Rows2 W base gs ps ag ca ap cb) : ∀ b ∈ Lx ag gs.length ca ap ps.length cb, base ≤ b ∧ b < W.heap.size := by
  intro b hb
  unfold Lx at hb
  rw [List.mem_append, Option.mem_toList, Option.mem_toList] at hb
  rcases hb with hb | hb
  · exact h.1.lt b hb
  · exact h.2.lt b hb
theorem Rows2.notin (h : Rows2 W base gs ps ag ca ap cb) {b : Nat} {xs : List Value} {t : TypeId} (hB : Blk W b xs t) (h1 : t ≠ 33) (h2 : t ≠ 35) : b ∉ Lx ag gs.length ca ap ps.length cb := by
  intro hb
  unfold Lx at hb
  rw [List.mem_append, Option.mem_toList, Option.mem_toList] at hb
  rcases hb with hb | hb
  · exact own_ne h.1 hB (Ne.symm h1) hb
  · exact own_ne h.2 hB (Ne.symm h2) hb
theorem Rows2.apart {W' : World} {L : List Nat} (h : Rows2 W base gs ps ag ca ap cb) (k : Only L W W') (hL : ∀ b ∈ Lx ag gs.length ca ap ps.length cb, b ∉ L) : Rows2 W' base gs ps ag ca ap cb :=
  ⟨row_keep2 h.1 k (fun b hb => hL b (by unfold Lx; rw [List.mem_append, Option.mem_toList, Option.mem_toList]; exact .inl hb)), row_keep2 h.2 k (fun b hb => hL b (by unfold Lx; rw [List.mem_append, Option.mem_toList, Option.mem_toList]; exact .inr hb))⟩
theorem Rows2.sl (h : Rows2 W base gs ps ag ca ap cb) : Sl W ag gs.length (gs.flatMap cg) ∧ Sl W ap ps.length (ps.flatMap cp) := ⟨row_sl h.1, row_sl h.2⟩
end
theorem outs (s : ByteArray) (m : M) (hm : m.Ok) (hsz : s.size ≤ 9223372036854775807) : ∃ (em : Int) (gs : List Gl) (ps : List Pr) (k a : Int) (m' : M), (gs.length ≤ 1024 ∧ ps.length ≤ 4096) ∧
    (∀ (w : World) (mb : Nat), Blk w mb m.cells 72 → Calls Try.prog 15 #[.pointer (some ⟨mb, 0, none⟩), .string s] w fun e w' => Only [mb] w w' ∧ Blk w' mb m'.cells 72 ∧ Out w w' em gs ps k a e) ∧
    (∀ (w : World) (mb : Nat), Blk w mb m.rcells 74 → Calls Try.prog 16 #[.pointer (some ⟨mb, 0, none⟩), .string s] w fun e w' => Only [mb] w w' ∧ Blk w' mb m'.rcells 74 ∧ Out w w' em gs ps k a e) := by
  obtain ⟨res, hres⟩ : ∃ res, getM m st0 0 (bl s) = res := ⟨_, rfl⟩
  have nil : ∀ (w w' : World), Rows2 w' w.heap.size [] [] none 0 none 0 := fun w w' => ⟨World.ownsRow_nil _ _ _ _, World.ownsRow_nil _ _ _ _⟩
  cases h2 : res.2 with
  | inl x =>
    refine ⟨0, [], [], x.1, x.2, res.1, ⟨Nat.zero_le _, Nat.zero_le _⟩, fun w mb hB => (get_any s m mb w hm hB hsz).mono ?_, fun w mb hB => (getR_any s m mb w hm hB hsz).mono ?_⟩
    · rintro e w' ⟨a1, a2, a3⟩
      rw [hres] at a2 a3
      rw [h2] at a3
      exact ⟨a1, a2, none, 0, none, 0, a3, nil _ _⟩
    · rintro e w' ⟨a1, a2, a3⟩
      rw [hres] at a2 a3
      rw [h2] at a3
      exact ⟨a1, a2, none, 0, none, 0, a3, nil _ _⟩
  | inr t =>
    obtain ⟨G, h16⟩ := getM_good (bl s) m st0 t 0 (bl_lt s) good0.1 good0.2 (by rw [hres]; exact h2)
    refine ⟨t.em, t.gs, t.ps, 0, 0, res.1, ⟨by rw [G.ge (by omega)]; exact G.ng (by omega), by rw [G.pe (by omega)]; exact G.np (by omega)⟩, fun w mb hB => (get_any s m mb w hm hB hsz).mono ?_, fun w mb hB => (getR_any s m mb w hm hB hsz).mono ?_⟩
    · rintro e w' ⟨a1, a2, a3⟩
      rw [hres] at a2 a3
      rw [h2] at a3
      obtain ⟨gv, pv, rfl, b1, b2⟩ := a3
      obtain ⟨ag, ca, rfl, _, _⟩ := row_reads b1
      obtain ⟨ap, cb, rfl, _, _⟩ := row_reads b2
      exact ⟨a1, a2, ag, ca, ap, cb, rfl, b1, b2⟩
    · rintro e w' ⟨a1, a2, a3⟩
      rw [hres] at a2 a3
      rw [h2] at a3
      obtain ⟨gv, pv, rfl, b1, b2⟩ := a3
      obtain ⟨ag, ca, rfl, _, _⟩ := row_reads b1
      obtain ⟨ap, cb, rfl, _, _⟩ := row_reads b2
      exact ⟨a1, a2, ag, ca, ap, cb, rfl, b1, b2⟩
/-- a font and a fault in two variables, the font's rows -/
structure Fs (W : World) (em : Int) (gs : List Gl) (ps : List Pr) (k : Nat) (kk aa : Int) (ag : Option Addr) (ca : Nat) (ap : Option Addr) (cb lo hi : Nat) : Prop where
  f : Blk W k [.int .i64 em, .slice ag gs.length ca, .slice ap ps.length cb] 25
  e : Blk W (k + 1) [.int .i64 kk, .int .i64 aa] 44
  r : Rows2 W lo gs ps ag ca ap cb
  b : ∀ q ∈ Lx ag gs.length ca ap ps.length cb, lo ≤ q ∧ q < hi
section
variable {W : World} {em : Int} {gs : List Gl} {ps : List Pr} {k : Nat} {kk aa : Int} {ag ap : Option Addr} {ca cb lo hi : Nat}
theorem Fs.below {W' : World} (h : Fs W em gs ps k kk aa ag ca ap cb lo hi) (q : Below W.heap.size W W') : Fs W' em gs ps k kk aa ag ca ap cb lo hi := ⟨h.f.below q, h.e.below q, h.r.below q, h.b⟩
theorem Fs.only {W' : World} {b : Nat} {xs : List Value} {t : TypeId} (h : Fs W em gs ps k kk aa ag ca ap cb lo hi) (o : Only [b] W W') (hB : Blk W b xs t) (h1 : t ≠ 33) (h2 : t ≠ 35) (h3 : t ≠ 25) (h4 : t ≠ 44) : Fs W' em gs ps k kk aa ag ca ap cb lo hi :=
  ⟨o.blk h.f (by rw [List.mem_singleton]; rintro rfl; exact h3 (hB.same h.f).2), o.blk h.e (by rw [List.mem_singleton]; intro e; exact h4 (hB.same (e ▸ h.e)).2), h.r.only o hB h1 h2, h.b⟩
/-- another font's rows were written over -/
theorem Fs.apart {W' : World} {gs' : List Gl} {ps' : List Pr} {ag' ap' : Option Addr} {ca' cb' lo' hi' base : Nat} (h : Fs W em gs ps k kk aa ag ca ap cb lo hi) (r' : Rows2 W base gs' ps' ag' ca' ap' cb') (b' : ∀ q ∈ Lx ag' gs'.length ca' ap' ps'.length cb', lo' ≤ q ∧ q < hi') (o : Only (Lx ag' gs'.length ca' ap' ps'.length cb') W W') (hd : hi' ≤ lo ∨ hi ≤ lo') : Fs W' em gs ps k kk aa ag ca ap cb lo hi :=
  ⟨o.blk h.f (r'.notin h.f (by decide) (by decide)), o.blk h.e (r'.notin h.e (by decide) (by decide)), h.r.apart o (fun q hq hq' => by
    have h1 := h.b q hq
    have h2 := b' q hq'
    omega), h.b⟩
theorem Fs.laid (r : Rows2 W lo gs ps ag ca ap cb) (em kk aa : Int) : Fs ((W.alloc (.cells #[.int .i64 em, .slice ag gs.length ca, .slice ap ps.length cb] 25)).alloc (.cells #[.int .i64 kk, .int .i64 aa] 44)) em gs ps W.heap.size kk aa ag ca ap cb lo W.heap.size ∧
    Below W.heap.size W ((W.alloc (.cells #[.int .i64 em, .slice ag gs.length ca, .slice ap ps.length cb] 25)).alloc (.cells #[.int .i64 kk, .int .i64 aa] 44)) :=
  have hb : Below W.heap.size W ((W.alloc (.cells #[.int .i64 em, .slice ag gs.length ca, .slice ap ps.length cb] 25)).alloc (.cells #[.int .i64 kk, .int .i64 aa] 44)) := ((Below.refl _ W).alloc (Nat.le_refl _) _).alloc (by simp) _
  ⟨⟨(Blk.new W _ 25 rfl).alloc _, Blk.new (W.alloc _) _ 44 (by simp), r.below hb, r.mem⟩, hb⟩
end
end Go.Proofs.Ytdinlaoimpoolaa
