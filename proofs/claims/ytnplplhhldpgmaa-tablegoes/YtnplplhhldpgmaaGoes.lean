/- TableGoes's walk: a range over All, left, gone on with, gone over within itself. -/
import Derived.Test.YtnplplhhldpgmaaGoesEnd
import Derived.Test.YtnplplhhldpgmaaRound
namespace Go.Proofs.Ytnplplhhldpgmaa
open Go.RowKit Go.Shelf
attribute [local go_sem] Oper.semAt_some

/-- a function's value is laid as any other is -/
theorem store_func (P : Program) (w : World) (a : Addr) (m : Mode) (f : Fn) (ts vs : Array Value) : (store a (.func f ts vs) m).run P w = stored P w a (.func f ts vs) m := run_store P w a _ m rfl
attribute [local go_sem] store_func
theorem bx_below {W W' : World} {B n : Nat} {t : TypeId} {v : Value} (h : Boxed W B t v) (k : Below n W W') (hB : B < n) : Boxed W' B t v := (k.block B hB).trans h
set_option linter.unusedVariables false
abbrev ci (z : Int) : List Value := [.int .i64 z]

theorem then_imp {F : Fence} {n : Nat} {P : Program} {c : Code} {K K' : Act → World → Prop} {Q : Exit → Act → World → Prop} {a : Act} {w : World} (h : c.wpIn F n P (Exit.then K Q) a w) (hk : ∀ a w, K a w → K' a w) : c.wpIn F n P (Exit.then K' Q) a w :=
  wpIn_mono h (fun e a w h => by cases e <;> first | exact hk _ _ h | exact h)
theorem seq_k {F : Fence} {n : Nat} {P : Program} {x y : Code} {Q : Exit → Act → World → Prop} {a : Act} {w : World} (h : ∀ K : Act → World → Prop, Hid (∀ a w, y.wpIn F n P Q a w → K a w) → x.wpIn F n P (Exit.then K Q) a w) : (Code.seq x y).wpIn F n P Q a w := wpIn_seq (h _ fun _ _ h => h)
theorem seq_mid {F : Fence} {n : Nat} {P : Program} {x y : Code} {Q : Exit → Act → World → Prop} {a : Act} {w : World} (Mid : Act → World → Prop) (h : x.wpIn F n P (Exit.then Mid Q) a w) (h2 : ∀ a w, Mid a w → y.wpIn F n P Q a w) : (Code.seq x y).wpIn F n P Q a w := wpIn_seq (then_imp h h2)
theorem keeps_others {W W' : World} (h : KeepsFrom 0 W W') : KeepsOthers W W' := ⟨h.size, fun k o => h.same k o (Nat.zero_le _)⟩
theorem blk_of {W W' : World} {b n : Nat} {xs : List Value} {t : TypeId} (h : Blk W b xs t) (k : Below n W W') (hb : b < n) : Blk W' b xs t := (k.block b hb).trans h
theorem keeps_drewN (W : World) (k : Nat) : KeepsOthers W (W.drewN k) := ⟨((Only.refl [] W).drewN k).size, fun i _ h _ => (((Only.refl [] W).drewN k).block i (Array.getElem?_eq_some_iff.1 h).1 (by simp)).trans h⟩
/-- the inner loop's round -/
def FrI (h mm Bh : Nat) (T : Array Value) : Prop := ∃ us : Nat → Value, T = #[us 0, us 1, .pointer (some ⟨h, 0, none⟩), us 3, .pointer (some ⟨h + 1, 0, none⟩), us 5, us 6, us 7, us 8, us 9, us 10, us 11, us 12, .pointer (some ⟨mm, 0, none⟩), .pointer (some ⟨Bh, 0, none⟩), us 15, us 16, us 17, us 18, us 19, us 20, us 21, us 22, us 23, us 24, us 25, us 26, us 27, us 28, us 29, us 30, us 31, us 32, us 33, us 34, us 35, us 36, us 37, us 38, us 39, us 40, us 41, us 42, us 43, us 44, us 45, us 46, us 47, us 48, us 49, us 50, us 51, us 52, us 53, us 54, us 55, us 56, us 57, us 58, us 59, us 60, us 61, us 62, us 63, us 64, us 65, us 66, us 67, us 68, us 69, us 70, us 71, us 72, us 73, us 74, us 75, us 76, us 77, us 78, us 79, us 80, us 81, us 82, us 83, us 84, us 85, us 86, us 87, us 88, us 89, us 90, us 91, us 92, us 93, us 94, us 95, us 96, us 97, us 98, us 99, us 100, us 101, us 102, us 103, us 104, us 105, us 106, us 107, us 108, us 109]
theorem FrI.of {h mm Bh : Nat} {T : Array Value} (hT : T = #[T.getD 0 undef, T.getD 1 undef, .pointer (some ⟨h, 0, none⟩), T.getD 3 undef, .pointer (some ⟨h + 1, 0, none⟩), T.getD 5 undef, T.getD 6 undef, T.getD 7 undef, T.getD 8 undef, T.getD 9 undef, T.getD 10 undef, T.getD 11 undef, T.getD 12 undef, .pointer (some ⟨mm, 0, none⟩), .pointer (some ⟨Bh, 0, none⟩), T.getD 15 undef, T.getD 16 undef, T.getD 17 undef, T.getD 18 undef, T.getD 19 undef, T.getD 20 undef, T.getD 21 undef, T.getD 22 undef, T.getD 23 undef, T.getD 24 undef, T.getD 25 undef, T.getD 26 undef, T.getD 27 undef, T.getD 28 undef, T.getD 29 undef, T.getD 30 undef, T.getD 31 undef, T.getD 32 undef, T.getD 33 undef, T.getD 34 undef, T.getD 35 undef, T.getD 36 undef, T.getD 37 undef, T.getD 38 undef, T.getD 39 undef, T.getD 40 undef, T.getD 41 undef, T.getD 42 undef, T.getD 43 undef, T.getD 44 undef, T.getD 45 undef, T.getD 46 undef, T.getD 47 undef, T.getD 48 undef, T.getD 49 undef, T.getD 50 undef, T.getD 51 undef, T.getD 52 undef, T.getD 53 undef, T.getD 54 undef, T.getD 55 undef, T.getD 56 undef, T.getD 57 undef, T.getD 58 undef, T.getD 59 undef, T.getD 60 undef, T.getD 61 undef, T.getD 62 undef, T.getD 63 undef, T.getD 64 undef, T.getD 65 undef, T.getD 66 undef, T.getD 67 undef, T.getD 68 undef, T.getD 69 undef, T.getD 70 undef, T.getD 71 undef, T.getD 72 undef, T.getD 73 undef, T.getD 74 undef, T.getD 75 undef, T.getD 76 undef, T.getD 77 undef, T.getD 78 undef, T.getD 79 undef, T.getD 80 undef, T.getD 81 undef, T.getD 82 undef, T.getD 83 undef, T.getD 84 undef, T.getD 85 undef, T.getD 86 undef, T.getD 87 undef, T.getD 88 undef, T.getD 89 undef, T.getD 90 undef, T.getD 91 undef, T.getD 92 undef, T.getD 93 undef, T.getD 94 undef, T.getD 95 undef, T.getD 96 undef, T.getD 97 undef, T.getD 98 undef, T.getD 99 undef, T.getD 100 undef, T.getD 101 undef, T.getD 102 undef, T.getD 103 undef, T.getD 104 undef, T.getD 105 undef, T.getD 106 undef, T.getD 107 undef, T.getD 108 undef, T.getD 109 undef]) : FrI h mm Bh T := ⟨fun k => T.getD k undef, hT⟩
/-- the last of these is not what the list holds there -/
def Miss (gs pre : List Gl) : Prop := ∃ pr x y, pre = pr ++ [x] ∧ gs[pr.length]? = some y ∧ x ≠ y
theorem Miss.not_prefix {gs pre : List Gl} (h : Miss gs pre) (k : pre <+: gs) : False := by
  obtain ⟨pr, x, y, rfl, hy, hne⟩ := h
  obtain ⟨t, rfl⟩ := k
  simp at hy
  exact hne hy
theorem own_or {β : Type} {B : Nat} {I : β → World → Prop} (h : OwnFrom B I) (p : β → Prop) : OwnFrom B (fun s W => I s W ∨ p s) := fun s X Y row hs hg hr => hs.imp (fun h' => h s X Y row h' hg hr) id
/-- the outer loop's round: i rounds are done -/
def RoundG (fv lv : Value) (h a b : Nat) (W1 : World) (i : Nat) (a' : Act) (W : World) : Prop :=
  ∃ (Bi : Nat) (Ds : List Nat) (us : Nat → Value), a' = { tmps := #[fv, lv, .pointer (some ⟨h, 0, none⟩), undef, .pointer (some ⟨h + 1, 0, none⟩), .pointer (some ⟨a, 0, none⟩), .int .i64 0, .pointer (some ⟨b + 1, 0, none⟩), .pointer (some ⟨Bi, 0, none⟩), us 9, us 10, us 11, us 12, us 13, us 14, fv, .bool false, .bool true, .bool false, .tuple #[.pointer (some ⟨a, 0, none⟩), .int .i64 0], fv, .tuple #[.pointer (some ⟨a, 0, none⟩), .int .i64 0], .pointer (some ⟨a, 0, none⟩), .int .i64 0, .pointer (some ⟨a, 0, none⟩), .bool false, undef, undef, .pointer (some ⟨a, 0, none⟩), .func (.func 29) #[] #[.pointer (some ⟨b, 0, none⟩)], .func (.func 29) #[] #[.pointer (some ⟨b, 0, none⟩)], .bool false, us 32, us 33, us 34, us 35, us 36, us 37, us 38, us 39, us 40, us 41, us 42, us 43, us 44, us 45, us 46, us 47, us 48, us 49, us 50, us 51, us 52, us 53, us 54, us 55, us 56, us 57, us 58, us 59, us 60, us 61, us 62, us 63, us 64, us 65, us 66, us 67, us 68, us 69, us 70, us 71, us 72, us 73, us 74, us 75, us 76, us 77, us 78, us 79, us 80, us 81, us 82, us 83, us 84, us 85, us 86, us 87, us 88, us 89, us 90, us 91, us 92, us 93, us 94, us 95, us 96, us 97, us 98, us 99, us 100, us 101, us 102, us 103, us 104, us 105, us 106, us 107, us 108, us 109], defers := Ds.map mk } ∧
    (b + 1 < Bi ∧ Boxed W Bi 3 (.int .i64 i) ∧ i ≤ 20 ∧ Below (b + 2) W1 W ∧ Ds.length = i ∧ Ds.Nodup ∧ ∀ D ∈ Ds, b + 2 ≤ D ∧ W.heap[D]? = some (.deferred (some [])))

theorem RoundG.of {fv lv : Value} {h a b i Bi : Nat} {W1 : World} {T : Array Value} {W : World} (Ds : List Nat) (hT : T = #[fv, lv, .pointer (some ⟨h, 0, none⟩), undef, .pointer (some ⟨h + 1, 0, none⟩), .pointer (some ⟨a, 0, none⟩), .int .i64 0, .pointer (some ⟨b + 1, 0, none⟩), .pointer (some ⟨Bi, 0, none⟩), T.getD 9 undef, T.getD 10 undef, T.getD 11 undef, T.getD 12 undef, T.getD 13 undef, T.getD 14 undef, fv, .bool false, .bool true, .bool false, .tuple #[.pointer (some ⟨a, 0, none⟩), .int .i64 0], fv, .tuple #[.pointer (some ⟨a, 0, none⟩), .int .i64 0], .pointer (some ⟨a, 0, none⟩), .int .i64 0, .pointer (some ⟨a, 0, none⟩), .bool false, undef, undef, .pointer (some ⟨a, 0, none⟩), .func (.func 29) #[] #[.pointer (some ⟨b, 0, none⟩)], .func (.func 29) #[] #[.pointer (some ⟨b, 0, none⟩)], .bool false, T.getD 32 undef, T.getD 33 undef, T.getD 34 undef, T.getD 35 undef, T.getD 36 undef, T.getD 37 undef, T.getD 38 undef, T.getD 39 undef, T.getD 40 undef, T.getD 41 undef, T.getD 42 undef, T.getD 43 undef, T.getD 44 undef, T.getD 45 undef, T.getD 46 undef, T.getD 47 undef, T.getD 48 undef, T.getD 49 undef, T.getD 50 undef, T.getD 51 undef, T.getD 52 undef, T.getD 53 undef, T.getD 54 undef, T.getD 55 undef, T.getD 56 undef, T.getD 57 undef, T.getD 58 undef, T.getD 59 undef, T.getD 60 undef, T.getD 61 undef, T.getD 62 undef, T.getD 63 undef, T.getD 64 undef, T.getD 65 undef, T.getD 66 undef, T.getD 67 undef, T.getD 68 undef, T.getD 69 undef, T.getD 70 undef, T.getD 71 undef, T.getD 72 undef, T.getD 73 undef, T.getD 74 undef, T.getD 75 undef, T.getD 76 undef, T.getD 77 undef, T.getD 78 undef, T.getD 79 undef, T.getD 80 undef, T.getD 81 undef, T.getD 82 undef, T.getD 83 undef, T.getD 84 undef, T.getD 85 undef, T.getD 86 undef, T.getD 87 undef, T.getD 88 undef, T.getD 89 undef, T.getD 90 undef, T.getD 91 undef, T.getD 92 undef, T.getD 93 undef, T.getD 94 undef, T.getD 95 undef, T.getD 96 undef, T.getD 97 undef, T.getD 98 undef, T.getD 99 undef, T.getD 100 undef, T.getD 101 undef, T.getD 102 undef, T.getD 103 undef, T.getD 104 undef, T.getD 105 undef, T.getD 106 undef, T.getD 107 undef, T.getD 108 undef, T.getD 109 undef])
    (h1 : b + 1 < Bi ∧ Boxed W Bi 3 (.int .i64 i) ∧ i ≤ 20 ∧ Below (b + 2) W1 W ∧ Ds.length = i ∧ Ds.Nodup ∧ ∀ D ∈ Ds, b + 2 ≤ D ∧ W.heap[D]? = some (.deferred (some []))) : RoundG fv lv h a b W1 i { tmps := T, defers := Ds.map mk } W :=
  ⟨Bi, Ds, fun k => T.getD k undef, congrArg (fun t => (⟨t, Ds.map mk⟩ : Act)) hT, h1⟩
/-- where it leaves is known -/
def MidG (fv lv : Value) (h a b Bi g : Nat) (wr : World) (Ds : List Nat) (a' : Act) (W : World) : Prop :=
  ∃ (us : Nat → Value) (lve : Int), a' = { tmps := #[fv, lv, .pointer (some ⟨h, 0, none⟩), undef, .pointer (some ⟨h + 1, 0, none⟩), .pointer (some ⟨a, 0, none⟩), .int .i64 0, .pointer (some ⟨b + 1, 0, none⟩), .pointer (some ⟨Bi, 0, none⟩), .pointer (some ⟨g, 0, none⟩), us 10, us 11, us 12, us 13, us 14, fv, .bool false, .bool true, .bool false, .tuple #[.pointer (some ⟨a, 0, none⟩), .int .i64 0], fv, .tuple #[.pointer (some ⟨a, 0, none⟩), .int .i64 0], .pointer (some ⟨a, 0, none⟩), .int .i64 0, .pointer (some ⟨a, 0, none⟩), .bool false, undef, undef, .pointer (some ⟨a, 0, none⟩), .func (.func 29) #[] #[.pointer (some ⟨b, 0, none⟩)], .func (.func 29) #[] #[.pointer (some ⟨b, 0, none⟩)], .bool false, us 32, us 33, us 34, us 35, us 36, us 37, us 38, us 39, us 40, us 41, us 42, us 43, us 44, us 45, us 46, us 47, us 48, us 49, us 50, us 51, us 52, us 53, us 54, us 55, us 56, us 57, us 58, us 59, us 60, us 61, us 62, us 63, us 64, us 65, us 66, us 67, us 68, us 69, us 70, us 71, us 72, us 73, us 74, us 75, us 76, us 77, us 78, us 79, us 80, us 81, us 82, us 83, us 84, us 85, us 86, us 87, us 88, us 89, us 90, us 91, us 92, us 93, us 94, us 95, us 96, us 97, us 98, us 99, us 100, us 101, us 102, us 103, us 104, us 105, us 106, us 107, us 108, us 109], defers := Ds.map mk } ∧ Boxed W g 3 (.int .i64 lve) ∧ Below g wr W ∧ W.heap.size = g + 1
theorem MidG.of {fv lv : Value} {h a b Bi g : Nat} {wr : World} {Ds : List Nat} {T : Array Value} {W : World} (lve : Int) (hT : T = #[fv, lv, .pointer (some ⟨h, 0, none⟩), undef, .pointer (some ⟨h + 1, 0, none⟩), .pointer (some ⟨a, 0, none⟩), .int .i64 0, .pointer (some ⟨b + 1, 0, none⟩), .pointer (some ⟨Bi, 0, none⟩), .pointer (some ⟨g, 0, none⟩), T.getD 10 undef, T.getD 11 undef, T.getD 12 undef, T.getD 13 undef, T.getD 14 undef, fv, .bool false, .bool true, .bool false, .tuple #[.pointer (some ⟨a, 0, none⟩), .int .i64 0], fv, .tuple #[.pointer (some ⟨a, 0, none⟩), .int .i64 0], .pointer (some ⟨a, 0, none⟩), .int .i64 0, .pointer (some ⟨a, 0, none⟩), .bool false, undef, undef, .pointer (some ⟨a, 0, none⟩), .func (.func 29) #[] #[.pointer (some ⟨b, 0, none⟩)], .func (.func 29) #[] #[.pointer (some ⟨b, 0, none⟩)], .bool false, T.getD 32 undef, T.getD 33 undef, T.getD 34 undef, T.getD 35 undef, T.getD 36 undef, T.getD 37 undef, T.getD 38 undef, T.getD 39 undef, T.getD 40 undef, T.getD 41 undef, T.getD 42 undef, T.getD 43 undef, T.getD 44 undef, T.getD 45 undef, T.getD 46 undef, T.getD 47 undef, T.getD 48 undef, T.getD 49 undef, T.getD 50 undef, T.getD 51 undef, T.getD 52 undef, T.getD 53 undef, T.getD 54 undef, T.getD 55 undef, T.getD 56 undef, T.getD 57 undef, T.getD 58 undef, T.getD 59 undef, T.getD 60 undef, T.getD 61 undef, T.getD 62 undef, T.getD 63 undef, T.getD 64 undef, T.getD 65 undef, T.getD 66 undef, T.getD 67 undef, T.getD 68 undef, T.getD 69 undef, T.getD 70 undef, T.getD 71 undef, T.getD 72 undef, T.getD 73 undef, T.getD 74 undef, T.getD 75 undef, T.getD 76 undef, T.getD 77 undef, T.getD 78 undef, T.getD 79 undef, T.getD 80 undef, T.getD 81 undef, T.getD 82 undef, T.getD 83 undef, T.getD 84 undef, T.getD 85 undef, T.getD 86 undef, T.getD 87 undef, T.getD 88 undef, T.getD 89 undef, T.getD 90 undef, T.getD 91 undef, T.getD 92 undef, T.getD 93 undef, T.getD 94 undef, T.getD 95 undef, T.getD 96 undef, T.getD 97 undef, T.getD 98 undef, T.getD 99 undef, T.getD 100 undef, T.getD 101 undef, T.getD 102 undef, T.getD 103 undef, T.getD 104 undef, T.getD 105 undef, T.getD 106 undef, T.getD 107 undef, T.getD 108 undef, T.getD 109 undef]) (h1 : Boxed W g 3 (.int .i64 lve)) (h2 : Below g wr W) (h3 : W.heap.size = g + 1) : MidG fv lv h a b Bi g wr Ds { tmps := T, defers := Ds.map mk } W :=
  ⟨fun k => T.getD k undef, lve, congrArg (fun t => (⟨t, Ds.map mk⟩ : Act)) hT, h1, h2, h3⟩
theorem Sl.int {W : World} {ad : Option Addr} {xs : List Int} (h : Sl W ad xs.length (xs.flatMap ci)) {i : Nat} {x : Int} (hi : xs[i]? = some x) : ∃ b off, ad = some ⟨b, off, none⟩ ∧ b < W.heap.size ∧ W.cell? ⟨b, off + i, none⟩ = some (.int .i64 x) := by
  have h0 : xs.length ≠ 0 := fun e => by
    rw [List.eq_nil_of_length_eq_zero e] at hi; simp at hi
  obtain ⟨b, off, e, ha⟩ := h h0
  refine ⟨b, off, e, ha.1, ha.2 i _ ?_⟩
  have := flat_get (enc := ci) (k := 1) (fun _ => rfl) (c := 0) (by omega) hi
  rw [Nat.mul_one, Nat.add_zero] at this
  rw [this]; rfl
set_option maxRecDepth 100000 in
set_option maxHeartbeats 8000000 in
theorem goes_walk (em : Int) (gs : List Gl) (ps : List Pr) (ag ap : Option Addr) (ca cb : Nat) (lv : Option Addr) (xs : List Int) (cl : Nat) (w : World) (hg : gs.length ≤ 9223372036854775807) (hp : ps.length ≤ 9223372036854775807) (hx : xs.length ≤ 9223372036854775807) (sg : Sl w ag gs.length (gs.flatMap cg)) (sp : Sl w ap ps.length (ps.flatMap cp)) (sx : Sl w lv xs.length (xs.flatMap ci)) :
    Calls Try.prog 4 #[.agg #[.int .i64 em, .slice ag gs.length ca, .slice ap ps.length cb], .slice lv xs.length cl] w fun e w' => e = .returned (.bool true) ∧ Below w.heap.size w w' := by
  have HS : Hid (Sl w ag gs.length (gs.flatMap cg) ∧ Sl w ap ps.length (ps.flatMap cp) ∧ Sl w lv xs.length (xs.flatMap ci)) := ⟨sg, sp, sx⟩
  have HL : Hid (gs.length ≤ 9223372036854775807 ∧ ps.length ≤ 9223372036854775807) := ⟨hg, hp⟩
  obtain ⟨W0, hW0⟩ : ∃ W0, (w.alloc (.cells #[.int .i64 em, .slice ag gs.length ca, .slice ap ps.length cb] 25)).alloc (.cells #[.bool false] 4) = W0 := ⟨_, rfl⟩
  have B0 : Below w.heap.size w W0 := by rw [← hW0]; exact ((Below.refl _ w).alloc (Nat.le_refl _) _).alloc (by simp) _
  have BF : Blk W0 w.heap.size [.int .i64 em, .slice ag gs.length ca, .slice ap ps.length cb] 25 := by rw [← hW0]; exact (Blk.new w #[.int .i64 em, .slice ag gs.length ca, .slice ap ps.length cb] 25 rfl).alloc _
  have BR : Boxed W0 (w.heap.size + 1) 4 (.bool false) := by
    rw [← hW0]
    have := Boxed.new (w.alloc (.cells #[.int .i64 em, .slice ag gs.length ca, .slice ap ps.length cb] 25)) 4 (.bool false)
    rwa [World.size_alloc] at this
  have HBY := fun W => beyond_any (.int .i64 em) ag ap gs.length ps.length ca cb W ⟨em, rfl⟩
  clear sg sp sx hg hp
  refine (callsIn_wide (n := 7)).1 ?_
  refine callsIn_of_wp_marks Try.func4 rfl trivial ?_ rfl
  simp only [Try.ntmps4, List.size_toArray, List.length_cons, List.length_nil, Nat.reduceAdd, Nat.reduceSub, Array.replicate_succ, Array.replicate_zero, List.push_toArray, List.append_toArray, List.nil_append, List.cons_append]
  by_cases hbey : 2147483647 < gs.length + ps.length
  · simp only [decide_eq_true hbey] at HBY
    have HB : Hid _ := HBY
    have HB0 : Hid _ := B0
    have HR := hid BR
    have k0 : W0.cell? ⟨w.heap.size, 0, none⟩ = some (.int .i64 em) := BF.cell 0
    have k1 : W0.cell? ⟨w.heap.size, 1, none⟩ = some (.slice ag gs.length ca) := BF.cell 1
    have k2 : W0.cell? ⟨w.heap.size, 2, none⟩ = some (.slice ap ps.length cb) := BF.cell 2
    clear HBY B0 BR BF hbey
    generalize gs.length = n at *
    generalize ps.length = q at *
    gi_wp2_with (refine ⟨trivial, ?_⟩; gi_at_call 7; refine (callsIn_wide.2 (HB.out _)).mono ?_; rintro e w1 ⟨rfl, hb⟩; have HB1 := hid hb; have r1 := (bx_below HR.out hb HR.out.lt).cell; have r2 := (bx_below HR.out hb HR.out.lt).frozen)
    have rr := (Boxed.set (.bool true) (bx_below HR.out HB1.out HR.out.lt)).cell
    have hz := HB1.out.size
    have hl := HR.out.lt
    exact goes_end rfl (n := w.heap.size + 2) (by omega) (by omega) [] _ rr (by simp; omega) List.nodup_nil (by simp) ((HB0.out.trans (HB1.out.mono HB0.out.size)).setCell (p := ⟨w.heap.size + 1, 0, none⟩) (by simp) _)
  · simp only [decide_eq_false hbey] at HBY
    have HB : Hid _ := HBY
    have HB0 : Hid _ := B0
    have HN : Hid (∀ W, Below w.heap.size w W → Calls Try.prog 10 #[.agg #[.int .i64 em, .slice ag gs.length ca, .slice ap ps.length cb]] W fun e w' => Made W w' em gs ps e) := fun W h =>
      new_any em gs ps ag ap ca cb W HL.out.1 HL.out.2 (HS.out.1.below h) (HS.out.2.1.below h)
    have HFR : Hid (∀ W, Below W0.heap.size W0 W → Blk W w.heap.size [.int .i64 em, .slice ag gs.length ca, .slice ap ps.length cb] 25 ∧ Boxed W (w.heap.size + 1) 4 (.bool false) ∧ Below w.heap.size w W) := fun W h => ⟨BF.below h, bx_below BR h BR.lt, B0.trans (h.mono B0.size)⟩
    obtain ⟨n, hne⟩ : ∃ n, gs.length = n := ⟨_, rfl⟩
    obtain ⟨q, hqe⟩ : ∃ q, ps.length = q := ⟨_, rfl⟩
    have HNN : Hid (gs.length = n) := hne
    have HQQ : Hid (ps.length = q) := hqe
    have k0 : W0.cell? ⟨w.heap.size, 0, none⟩ = some (.int .i64 em) := BF.cell 0
    have k1 : W0.cell? ⟨w.heap.size, 1, none⟩ = some (.slice ag gs.length ca) := BF.cell 1
    have k2 : W0.cell? ⟨w.heap.size, 2, none⟩ = some (.slice ap ps.length cb) := BF.cell 2
    have HLE : Hid (gs.length ≤ 2147483647 ∧ ps.length ≤ 2147483647) := ⟨by omega, by omega⟩
    rw [hne] at k1
    rw [hqe] at k2
    rw [hne, hqe] at HB HN hW0 HFR
    rw [hne, hqe]
    clear HBY B0 BR BF hbey hne hqe
    gi_wp2_with (refine ⟨trivial, ?_⟩; gi_at_call 7; refine (callsIn_wide.2 (HB.out _)).mono ?_; rintro e w1 ⟨rfl, hb⟩; have HB1 := hid hb; clear hb)
    clear hW0 k0 k1 k2 HB HB0
    gi_wp2_with (refine ⟨trivial, ?_⟩; gi_at_call 8; refine (callsIn_wide.2 (shown_any _)).mono ?_; rintro e w2 ⟨rfl, hb⟩; have HB2 : Hid (Below W0.heap.size W0 w2) := HB1.out.trans (hb.mono HB1.out.size); obtain ⟨bF, bR, bB⟩ := HFR.out _ HB2.out; have k0 := bF.cell 0; have k1 := bF.cell 1; have k2 := bF.cell 2; have HBB := hid bB; clear hb HB1 bF bR bB)
    clear k0 k1 k2
    refine ⟨trivial, ?_⟩
    refine (callsIn_wide.2 (HN.out _ HBB.out)).mono ?_
    rintro e w3 ⟨hwr, hok, hb⟩
    have HB3 : Hid (Below W0.heap.size W0 w3) := HB2.out.trans (hb.mono HB2.out.size)
    have HBW : Hid (Below w.heap.size w w3) := (HFR.out _ HB3.out).2.2
    have hlR := (HFR.out _ HB3.out).2.1.lt
    by_cases hv : verd em gs ps = 0
    · obtain ⟨a, rfl, hT⟩ := hok hv
      have HT : Hid (Tab w2.heap.size w3.heap.size w3 a em gs ps) := hT
      clear hwr hok hT hb HB2 HBB HN hv
      gi_wp2_with fail
      refine ⟨trivial, ?_⟩
      refine (callsIn_wide.2 (all_any a w3)).mono ?_
      rintro e w4 ⟨rfl, rfl⟩
      have hfn := func_nil
      obtain ⟨b, hb⟩ : ∃ b, w3.heap.size = b := ⟨_, rfl⟩
      have b0 := ((Boxed.new w3 30 (.pointer (some ⟨a, 0, none⟩))).alloc (.cells #[.func (.func 29) #[] #[.pointer (some ⟨w3.heap.size, 0, none⟩)]] 42)).alloc (.cells #[.int .i64 0] 3)
      have b1 := (Boxed.new (w3.alloc (.cells #[.pointer (some ⟨a, 0, none⟩)] 30)) 42 (.func (.func 29) #[] #[.pointer (some ⟨w3.heap.size, 0, none⟩)])).alloc (.cells #[.int .i64 0] 3)
      have b2 := Boxed.new ((w3.alloc (.cells #[.pointer (some ⟨a, 0, none⟩)] 30)).alloc (.cells #[.func (.func 29) #[] #[.pointer (some ⟨w3.heap.size, 0, none⟩)]] 42)) 3 (.int .i64 0)
      have bB : Below w3.heap.size w3 (((w3.alloc (.cells #[.pointer (some ⟨a, 0, none⟩)] 30)).alloc (.cells #[.func (.func 29) #[] #[.pointer (some ⟨w3.heap.size, 0, none⟩)]] 42)).alloc (.cells #[.int .i64 0] 3)) := (((Below.refl _ w3).alloc (Nat.le_refl _) _).alloc (by simp) _).alloc (by simp; omega) _
      simp only [World.size_alloc] at b1 b2
      simp only [hb] at b0 b1 b2 bB
      gi_wp2_with fail
      obtain ⟨W1, hW1⟩ : ∃ W1, ((w3.alloc (.cells #[.pointer (some ⟨a, 0, none⟩)] 30)).alloc (.cells #[.func (.func 29) #[] #[.pointer (some ⟨b, 0, none⟩)]] 42)).alloc (.cells #[.int .i64 0] 3) = W1 := ⟨_, rfl⟩
      rw [hW1] at b0 b1 b2 bB ⊢
      have HW1 : Hid (∀ W, Below (b + 2) W1 W → (Blk W w.heap.size [.int .i64 em, .slice ag n ca, .slice ap q cb] 25 ∧ Boxed W (w.heap.size + 1) 4 (.bool false) ∧ Below w.heap.size w W) ∧ Tab w2.heap.size b W a em gs ps ∧ Boxed W b 30 (.pointer (some ⟨a, 0, none⟩)) ∧ Boxed W (b + 1) 42 (.func (.func 29) #[] #[.pointer (some ⟨b, 0, none⟩)])) := hid fun W h => by
        have k : Below b w3 W := bB.trans (h.mono (by omega))
        have T := HT.out
        rw [hb] at T
        exact ⟨HFR.out W (HB3.out.trans (k.mono (by rw [← hb]; exact HB3.out.size))), T.below (by rw [hb]; exact k), bx_below b0 h (by omega), bx_below b1 h (by omega)⟩
      have HB2 := hid b2
      have hbR : w.heap.size + 1 < b := by rw [← hb]; exact hlR
      clear hW1 hfn HFR HT b0 b1 b2 bB hb HBW HB3 hlR
      refine wpIn_loop (fun a' W => ∃ i, RoundG (.agg #[.int .i64 em, .slice ag n ca, .slice ap q cb]) (.slice lv xs.length cl) w.heap.size a b W1 i a' W) (fun a' _ => 21 - a'.defers.length) ?_ ?_
      · exact ⟨0, b + 1 + 1, [], fun _ => undef, rfl, by omega, HB2.out, by omega, Below.refl _ _, rfl, List.nodup_nil, by simp⟩
      · rintro a' wr ⟨i, hR⟩
        obtain ⟨Bi, Ds, us, rfl, hBi, bi, hi20, hbl, hlen, hnd, hD⟩ := hR
        obtain ⟨K, hK⟩ : ∃ K : Act → World → Prop, K = fun a'' W'' => (∃ j, RoundG (.agg #[.int .i64 em, .slice ag n ca, .slice ap q cb]) (.slice lv xs.length cl) w.heap.size a b W1 j a'' W'') ∧ 21 - a''.defers.length < 21 - (Ds.map mk).length := ⟨_, rfl⟩
        refine then_imp (K := K) ?_ (fun a2 w2 h => by rw [hK] at h; exact h)
        have HK := hid hK
        have HBL := hid hbl
        have HI := hid bi
        have HD : Hid _ := And.intro hlen (And.intro hnd hD)
        have ci := bi.cell
        have hsz := hbl.size
        have hli := bi.lt
        clear hK hbl bi hlen hnd hD HB2
        by_cases hgo : (i : Int) ≤ (xs.length : Int) ∧ (i : Int) < 20
        · obtain ⟨hgo1, hgo2⟩ := hgo
          refine seq_k ?_
          intro K1 hK1
          gi_wp2_with fail
          refine hK1.out _ _ ?_
          clear hK1 K1
          refine seq_k ?_
          intro K2 hK2
          refine wpIn_block ?_
          refine seq_k ?_
          intro K3 hK3
          gi_wp2_with fail
          refine hK3.out _ _ ?_
          clear hK3 K3
          obtain ⟨g, hg⟩ : ∃ g, wr.heap.size = g := ⟨_, rfl⟩
          obtain ⟨Mid, hMid⟩ : ∃ M : Act → World → Prop, M = MidG (.agg #[.int .i64 em, .slice ag n ca, .slice ap q cb]) (.slice lv xs.length cl) w.heap.size a b Bi g wr Ds := ⟨_, rfl⟩
          have HMid := hid hMid
          have nw := (Boxed.new wr 3 (.int .i64 (-1)))
          have ci2 : (wr.alloc (.cells #[.int .i64 (-1)] 3)).cell? ⟨Bi, 0, none⟩ = some (.int .i64 i) := (HI.out.alloc _).cell
          rw [hg] at nw
          refine seq_mid Mid ?_ ?_
          · clear hMid
            rw [hg]
            by_cases hlx : (i : Int) < (xs.length : Int)
            · obtain ⟨x, hx⟩ := some_at (xs := xs) (i := i) (by omega)
              obtain ⟨bl, off, rfl, hbl, hcx⟩ := HS.out.2.2.int hx
              have hcx2 : (wr.alloc (.cells #[.int .i64 (-1)] 3)).cell? ⟨bl, off + i, none⟩ = some (.int .i64 x) := (((HW1.out _ HBL.out).1.2.2.trans ((Below.refl _ wr).alloc (Nat.le_refl _) _ |>.mono (HW1.out _ HBL.out).1.2.2.size)).cell (p := ⟨bl, off + i, none⟩) hbl).trans hcx
              have hl0 : (0 : Int) ≤ (i : Int) := by omega
              clear hx
              gi_wp2_with fail
              rw [HMid.out]
              exact MidG.of x rfl (by rw [← hg]; exact Boxed.new wr 3 _) (by rw [← hg]; exact (Below.refl _ wr).alloc (Nat.le_refl _) _) (by simp [hg])
            · gi_wp2_with fail
              rw [HMid.out]
              exact MidG.of (-1) rfl nw (by rw [← hg]; exact (Below.refl _ wr).alloc (Nat.le_refl _) _) (by simp [hg])
          · clear hMid ci ci2 nw
            rintro a2 WB hmid
            rw [HMid.out] at hmid
            obtain ⟨us2, lve, rfl, bL, hbB, hszB⟩ := hmid
            have hBL2 : Below (b + 2) W1 WB := HBL.out.trans (hbB.mono (by omega))
            obtain ⟨⟨tF, tR, tB⟩, tT, tS, tQ⟩ := HW1.out WB hBL2
            have HF2 := hid (And.intro tF tR)
            have HTB := hid tB
            have HTT := hid tT
            have HTS := hid tS
            have HIB := hid (bx_below HI.out hbB (by omega))
            have HLB := hid bL
            have HGB := hid (And.intro hBL2 hbB)
            have cq := ((tQ.alloc (.cells #[.int .i64 0] 3)).alloc (.cells #[.bool false] 4)).cell
            have HTQ := hid tQ
            clear tF tR tB tT tS tQ bL hbB hBL2
            have hlA := HTS.out.lt
            have HLIES := hid HTT.out.lies
            obtain ⟨tg, tc, tm, tB2, tS2, tM2, tA2, tMM, tO2⟩ := HLIES.out
            have hgl := HTT.out.gl
            have HST := all_stops 6 (by omega) b a (g + 1) (.int .i64 em) (.map (some tm)) gs tg tc hgl ((WB.alloc (.cells #[.int .i64 0] 3)).alloc (.cells #[.bool false] 4)) ((HTS.out.alloc _).alloc _) ((tB2.alloc _).alloc _) (tS2.only (((Only.refl [] WB).alloc _).alloc _)) (fun b2 o2 e2 => by have := tO2 b2 o2 e2; omega) (by simp; omega)
            have HJ0 : (Blk ((WB.alloc (.cells #[.int .i64 0] 3)).alloc (.cells #[.bool false] 4)) (g + 1) [.int .i64 ((([] : List Gl).length : Nat) : Int)] 3 ∧ Blk ((WB.alloc (.cells #[.int .i64 0] 3)).alloc (.cells #[.bool false] 4)) (g + 1 + 1) [.bool false] 4) ∧ Below (g + 1) WB ((WB.alloc (.cells #[.int .i64 0] 3)).alloc (.cells #[.bool false] 4)) :=
              ⟨⟨(Blk.new WB #[.int .i64 0] 3 hszB).alloc _, Blk.new (WB.alloc (.cells #[.int .i64 0] 3)) #[.bool false] 4 (by simp [hszB])⟩, ((Below.refl _ WB).alloc (by omega) _).alloc (by simp; omega) _⟩
            have hsz2 : ((WB.alloc (.cells #[.int .i64 0] 3)).alloc (.cells #[.bool false] 4)).heap.size = g + 3 := by simp [hszB]
            clear tB2 tS2 tM2 tA2 tMM tO2 HLIES
            have HEND : Hid (∀ D W, g + 3 ≤ D → Below (g + 1) WB W → W.heap[D]? = some (.deferred (some [])) → (b + 1 < W.heap.size ∧ Boxed (W.alloc (.cells #[.int .i64 ((i : Int) + 1)] 3)) W.heap.size 3 (.int .i64 ((i + 1 : Nat) : Int)) ∧ i + 1 ≤ 20 ∧ Below (b + 2) W1 (W.alloc (.cells #[.int .i64 ((i : Int) + 1)] 3)) ∧ (D :: Ds).length = i + 1 ∧ (D :: Ds).Nodup ∧ ∀ E ∈ D :: Ds, b + 2 ≤ E ∧ (W.alloc (.cells #[.int .i64 ((i : Int) + 1)] 3)).heap[E]? = some (.deferred (some [])))) := hid fun D W h1 h2 h3 => by
              obtain ⟨hlen, hnd, hD⟩ := HD.out
              have z := h2.size
              have hB1 : Below (b + 2) W1 W := HGB.out.1.trans (h2.mono (by omega))
              have lo : ∀ E ∈ Ds, E < g := fun E hE => by
                have := (Array.getElem?_eq_some_iff.1 (hD E hE).2).1
                omega
              have hal : ∀ (E : Nat) (o : Obj), W.heap[E]? = some o → (W.alloc (.cells #[.int .i64 ((i : Int) + 1)] 3)).heap[E]? = some o := fun E o h => (Below.heap_alloc _ _ _ (Array.getElem?_eq_some_iff.1 h).1).trans h
              refine ⟨by omega, Boxed.new W 3 _, by omega, hB1.alloc (by omega) _, by simp [hlen], List.nodup_cons.2 ⟨fun h => by have := lo D h; omega, hnd⟩, ?_⟩
              intro E hE
              rcases List.mem_cons.1 hE with rfl | hE
              · exact ⟨by omega, hal _ _ h3⟩
              · have hl := lo E hE
                exact ⟨(hD E hE).1, hal _ _ ((h2.block E (by omega)).trans ((HGB.out.2.block E hl).trans (hD E hE).2))⟩
            gi_wp2_with fail
            obtain ⟨WN, hWN⟩ : ∃ WN, (WB.alloc (.cells #[.int .i64 0] 3)).alloc (.cells #[.bool false] 4) = WN := ⟨_, rfl⟩
            rw [hWN] at HST HJ0 hsz2 ⊢
            clear hWN cq
            refine wpIn_rangeFunc_ownH rfl (by omega) (gf := 29) (lb := #[.pointer (some ⟨b, 0, none⟩)]) rfl trivial (enters_of Try.func29 (by kernel_rfl) rfl)
              HST belowK_t (belowK_b (by omega)) (Below.refl _ _) (fun _ => rfl)
              (fun pre W => (Blk W (g + 1) [.int .i64 ((pre.length : Nat) : Int)] 3 ∧ Blk W (g + 1 + 1) [.bool false] 4) ∧ Below (g + 1) WB W)
              (fun c pre W => ((c = .exit 2 ∧ Blk W (g + 1 + 1) [.bool true] 4) ∧ Below (g + 1) WB W) ∨ (c = .ret ∧ Miss gs pre))
              (OwnFrom.and (OwnFrom.and (Go.Own.from (blk_own _ (fun (pre : List Gl) => [Value.int .i64 ((pre.length : Nat) : Int)]) _) _) (Go.Own.from (blk_own _ (fun (_ : List Gl) => [Value.bool false]) _) _)) (ownFrom_below (by omega) (by omega)))
              (fun c => own_or (OwnFrom.and (OwnFrom.and (ownFrom_pure _ _) (Go.Own.from (blk_own _ (fun (_ : List Gl) => [Value.bool true]) _) _)) (ownFrom_below (by omega) (by omega))) (fun pre => c = .ret ∧ Miss gs pre))
              HJ0
              (fun x a' W => ∃ Bx, g + 1 + 1 < Bx ∧ Blk W Bx (cg x) 45 ∧ a' = { tmps := #[.agg #[.int .i64 em, .slice ag n ca, .slice ap q cb], .slice lv xs.length cl, .pointer (some ⟨w.heap.size, 0, none⟩), undef, .pointer (some ⟨w.heap.size + 1, 0, none⟩), .pointer (some ⟨a, 0, none⟩), .int .i64 0, .pointer (some ⟨b + 1, 0, none⟩), .pointer (some ⟨Bi, 0, none⟩), .pointer (some ⟨g, 0, none⟩), .pointer (some ⟨g + 1, 0, none⟩), .pointer (some ⟨g + 1 + 1, 0, none⟩), .pointer (some ⟨Bx, 0, none⟩), us2 13, us2 14, .agg #[.int .i64 em, .slice ag n ca, .slice ap q cb], .bool false, .bool true, .bool false, .tuple #[.pointer (some ⟨a, 0, none⟩), .int .i64 0], .agg #[.int .i64 em, .slice ag n ca, .slice ap q cb], .tuple #[.pointer (some ⟨a, 0, none⟩), .int .i64 0], .pointer (some ⟨a, 0, none⟩), .int .i64 0, .pointer (some ⟨a, 0, none⟩), .bool false, undef, undef, .pointer (some ⟨a, 0, none⟩), .func (.func 29) #[] #[.pointer (some ⟨b, 0, none⟩)], .func (.func 29) #[] #[.pointer (some ⟨b, 0, none⟩)], .bool false, us2 32, us2 33, us2 34, us2 35, us2 36, us2 37, us2 38, us2 39, us2 40, us2 41, us2 42, us2 43, us2 44, us2 45, us2 46, us2 47, us2 48, us2 49, .func (.func 29) #[] #[.pointer (some ⟨b, 0, none⟩)], .agg (cg x).toArray, us2 52, us2 53, us2 54, us2 55, us2 56, us2 57, us2 58, us2 59, us2 60, us2 61, us2 62, us2 63, us2 64, us2 65, us2 66, us2 67, us2 68, us2 69, us2 70, us2 71, us2 72, us2 73, us2 74, us2 75, us2 76, us2 77, us2 78, us2 79, us2 80, us2 81, us2 82, us2 83, us2 84, us2 85, us2 86, us2 87, us2 88, us2 89, us2 90, us2 91, us2 92, us2 93, us2 94, us2 95, us2 96, us2 97, us2 98, us2 99, us2 100, us2 101, us2 102, us2 103, us2 104, us2 105, us2 106, us2 107, us2 108, us2 109], defers := [] })
              (fun x a' _ X Y row hs hg hr => by obtain ⟨Bx, h1, h2, h3⟩ := hs; exact ⟨Bx, h1, blk_own Bx (fun (_ : Unit) => cg x) 45 () X Y row h2 hg (fun r e => (hr r e).2), h3⟩)
              ?assign ?body ?done ?stop
            case assign =>
              rintro l pre x W KK ⟨⟨hn, hl⟩, hb⟩ hKK
              have HKK := hid hKK
              have hll := hl.lt
              have hI2 : (Blk (W.alloc (.cells (cg x).toArray 45)) (g + 1) [.int .i64 ((pre.length : Nat) : Int)] 3 ∧ Blk (W.alloc (.cells (cg x).toArray 45)) (g + 1 + 1) [.bool false] 4) ∧ Below (g + 1) WB (W.alloc (.cells (cg x).toArray 45)) :=
                ⟨⟨hn.alloc _, hl.alloc _⟩, hb.alloc (by omega) _⟩
              have hN := Blk.new W (cg x).toArray 45 rfl
              obtain ⟨x0, x1, x2, x3⟩ := x
              simp only [cg, encs] at *
              gi_wp2
              exact HKK.out _ _ ((KeepsOthers.alloc _ _).from _) ((Below.refl _ _).alloc (by omega) _) hI2 ⟨W.heap.size, hll, hN, rfl⟩
            case body =>
              rintro l pre x a' W hl ⟨rr, hrr⟩ ⟨⟨hn, hlf⟩, hb⟩ ⟨Bx, hBx, bX, rfl⟩ hlt
              obtain ⟨y, hy⟩ := some_at (xs := gs) (i := pre.length) hlt
              have hTB' : Below w.heap.size w W := HTB.out.trans (hb.mono (by have := HTB.out.size; omega))
              obtain ⟨bg, og, rfl, hbg, hga⟩ := HS.out.1.glyph hy
              have hgw := hga.below hTB' hbg
              have hbW : Below WB.heap.size WB W := by rw [hszB]; exact hb
              have kf : W.cell? ⟨w.heap.size, 1, none⟩ = some (.slice (some ⟨bg, og, none⟩) n ca) := (HF2.out.1.below hbW).cell 1
              have ki := (bx_below HIB.out hb (by omega)).cell
              have kq := (bx_below HTQ.out hbW HTQ.out.lt).cell
              have kv := (bx_below HLB.out hb (by omega)).cell
              have kr := (bx_below HF2.out.2 hbW HF2.out.2.lt).frozen
              have krc := (bx_below HF2.out.2 hbW HF2.out.2.lt).cell
              have hszW := hb.size
              have HY := hid hy
              have HPL : Hid (pre.length < n) := by rw [← HNN.out]; exact hlt
              have hne := fun W => neqG x y W
              have hgd := guard45
              have mf : Try.prog.follows .mixedOrders = true := by kernel_rfl
              obtain ⟨k, hk⟩ : ∃ k, pre.length = k := ⟨_, rfl⟩
              have HKP := hid hk
              have hk1 : (k : Int) < (n : Int) := by have := HPL.out; omega
              have hk0 : (0 : Int) ≤ (k : Int) := by omega
              have hsn : ¬ (n : Int) ≤ (k : Int) := by omega
              have hsm : ¬ n ≤ k := by omega
              have hsf : decide (n ≤ k) = false := decide_eq_false hsm
              rw [hk] at hn hgw
              have kn : W.cell? ⟨g + 1, 0, none⟩ = some (.int .i64 (k : Int)) := hn.cell 0
              have kl : W.cell? ⟨g + 1 + 1, 0, none⟩ = some (.bool false) := hlf.cell 0
              have kfr := hn.froz 0
              have kfl := hlf.froz 0
              have HXY := hid (And.intro hn (And.intro hlf (And.intro hb bX)))
              by_cases hxy : x = y
              · subst hxy
                obtain ⟨x0, x1, x2, x3⟩ := x
                obtain ⟨c0, c1, c2, c3⟩ := hgw
                have d0 : W.cell? ⟨Bx, 0, none⟩ = some (.int .i64 x0) := bX.cell 0
                have d1 : W.cell? ⟨Bx, 1, none⟩ = some (.int .i64 x1) := bX.cell 1
                have d2 : W.cell? ⟨Bx, 2, none⟩ = some (.int .i64 x2) := bX.cell 2
                have d3 : W.cell? ⟨Bx, 3, none⟩ = some (.int .i64 x3) := bX.cell 3
                have hk2 : (k : Int) < 1024 := by have := HPL.out; have := HNN.out; omega
                simp only [cg, decide_true, Bool.not_true] at hne c0 c1 c2 c3
                clear hn hlf hb bX hga hy hlt HST hk hbW hTB' HJ0
                simp only [cg]
                have HCONT : Hid (∀ nq (v : Int), KeepsOthers W ((W.drewN nq).setCell ⟨g + 1, 0, none⟩ (.int .i64 v)) ∧ Below (g + 1) W ((W.drewN nq).setCell ⟨g + 1, 0, none⟩ (.int .i64 v)) ∧ Blk ((W.drewN nq).setCell ⟨g + 1, 0, none⟩ (.int .i64 v)) (g + 1) [.int .i64 v] 3 ∧ Blk ((W.drewN nq).setCell ⟨g + 1, 0, none⟩ (.int .i64 v)) (g + 1 + 1) [.bool false] 4) := hid fun nq v => by
                  obtain ⟨q1, q2, q3, q4⟩ := HXY.out
                  have o0 : Only [g + 1] W (W.drewN nq) := (Only.refl [g + 1] W).drewN nq
                  have o1 : Only [g + 1] W ((W.drewN nq).setCell ⟨g + 1, 0, none⟩ (.int .i64 v)) := o0.set (p := ⟨g + 1, 0, none⟩) (.inl (by simp)) _
                  exact ⟨(keeps_drewN W nq).trans (KeepsOthers.setCell _ _ _), o1.toBelow (by omega) (by intro z hz; rw [List.mem_singleton.1 hz]; exact Nat.le_refl _), (((Only.refl [] W).drewN nq).blk q1 (by simp)).set 0 _, o1.blk q2 (by simp)⟩
                have HPN : Hid (((pre ++ [(x0, x1, x2, x3)]).length : Nat) = k + 1) := by rw [List.length_append, HKP.out]; rfl
                by_cases hlv : (k : Int) + 1 = lve
                · gi_wp2_with fail
                  refine wpIn_region_round (by kernel_rfl) (by kernel_rfl) (by kernel_rfl) ?_
                  repeat (gi_big_quiet_step (fail))
                  refine wpQuietIn_nil ?_
                  intro _ hw'
                  obtain ⟨nq, hw''⟩ := hw'
                  subst hw''
                  gi_wp2_with fail
                  obtain ⟨q1, q2, q3, q4⟩ := HCONT.out nq lve
                  refine ⟨(q1.trans (KeepsOthers.setCell _ _ _)).from _, .inl ⟨⟨rfl, q4.set 0 _⟩, (HXY.out.2.2.1.trans q2).setCell (p := ⟨g + 1 + 1, 0, none⟩) (by simp) _⟩⟩
                · by_cases hi1 : (1 : Int) < (i : Int)
                  · have hi2 : 1 < i := by omega
                    gi_wp2_with fail
                    refine wpIn_region_round (by kernel_rfl) (by kernel_rfl) (by kernel_rfl) ?_
                    repeat (gi_big_quiet_step (fail))
                    refine wpQuietIn_nil ?_
                    intro _ hw'
                    obtain ⟨nq, hw''⟩ := hw'
                    subst hw''
                    gi_wp2_with fail
                    obtain ⟨q1, q2, q3, q4⟩ := HCONT.out nq ((k : Int) + 1)
                    refine ⟨q1.from _, q2, ⟨?_, q4⟩, HXY.out.2.2.1.trans q2⟩
                    rw [HPN.out]; exact q3
                  · have hi2 : ¬ 1 < i := by omega
                    by_cases hk3 : (k : Int) + 1 = 2
                    · gi_wp2_with fail
                      refine wpIn_region_round (by kernel_rfl) (by kernel_rfl) (by kernel_rfl) ?_
                      repeat (gi_big_quiet_step (fail))
                      refine wpQuietIn_nil ?_
                      intro _ hw'
                      obtain ⟨nq, hw''⟩ := hw'
                      subst hw''
                      have kq2 : (((W.drewN nq).setCell ⟨g + 1, 0, none⟩ (.int .i64 2)).alloc (.cells #[.int .i64 0] 3)).cell? ⟨b + 1, 0, none⟩ = some (.func (.func 29) #[] #[.pointer (some ⟨b, 0, none⟩)]) := ((bx_below HTQ.out ((by rw [hszB]; exact HXY.out.2.2.1.trans (HCONT.out nq 2).2.1) : Below WB.heap.size WB _) HTQ.out.lt).alloc _).cell
                      have hst2 := hid (HCONT.out nq 2)
                      gi_wp2_with fail
                      obtain ⟨WC, hWC⟩ : ∃ WC, ((W.drewN nq).setCell ⟨g + 1, 0, none⟩ (.int .i64 2)).alloc (.cells #[.int .i64 0] 3) = WC := ⟨_, rfl⟩
                      rw [hWC]
                      clear kq2
                      have q := hst2.out
                      have hszC : WC.heap.size = W.heap.size + 1 := by rw [← hWC]; simp
                      have hrrC : WC.heap[l]? = some (.loop rr) := by rw [← hWC]; exact (Below.heap_alloc _ _ _ (Array.getElem?_eq_some_iff.1 (q.1.same l _ hrr rfl)).1).trans (q.1.same l _ hrr rfl)
                      have hBC : Below WB.heap.size WB WC := by rw [← hWC, hszB]; exact (HXY.out.2.2.1.trans q.2.1).alloc (by simp; omega) _
                      have hBW : Below (g + 1) W WC := by rw [← hWC]; exact q.2.1.alloc (by simp; omega) _
                      have hm0 : Blk WC W.heap.size [.int .i64 ((([] : List Gl).length : Nat) : Int)] 3 := by rw [← hWC]; exact Blk.new _ #[.int .i64 0] 3 (by simp)
                      have hkO : KeepsOthers W WC := by rw [← hWC]; exact q.1.trans (KeepsOthers.alloc _ _)
                      have hn2 : Blk WC (g + 1) [.int .i64 2] 3 ∧ Blk WC (g + 1 + 1) [.bool false] 4 := by rw [← hWC]; exact ⟨q.2.2.1.alloc _, q.2.2.2.alloc _⟩
                      have HCC := hid (And.intro hBC (And.intro hBW (And.intro hkO hn2)))
                      obtain ⟨tg, tc, tm, tB2, tS2, _, _, _, tO2⟩ := (HTT.out.below hBC).lies
                      have HST2 := all_stops 4 (by omega) b a W.heap.size (.int .i64 em) (.map (some tm)) gs tg tc hgl WC (bx_below HTS.out hBC HTS.out.lt) tB2 tS2 (fun b2 o2 e2 => by have := tO2 b2 o2 e2; omega) (by omega)
                      clear q hBC hBW hkO hn2 tB2 tS2 tO2 hWC
                      refine wpIn_rangeFunc_ownN (l₀ := l) (r₀ := rr) rfl hrrC (by omega) (gf := 29) (lb := #[.pointer (some ⟨b, 0, none⟩)]) rfl trivial (enters_of Try.func29 (by kernel_rfl) rfl)
                        (HST2.inRound l) belowK_t (belowK_b (by omega)) (Below.refl _ _) (fun _ => rfl)
                        (fun pre' W' => Blk W' W.heap.size [.int .i64 ((pre'.length : Nat) : Int)] 3 ∧ (Below W.heap.size WC W' ∧ KeepsFrom 0 WC W'))
                        (fun c pre' _ => c = .ret ∧ Miss gs pre')
                        (OwnFrom.and (Go.Own.from (blk_own _ (fun (pre : List Gl) => [Value.int .i64 ((pre.length : Nat) : Int)]) _) _) (OwnFrom.and (ownFrom_below (by omega) (by omega)) (ownFrom_keepsFrom (Nat.le_refl _))))
                        (fun c => ownFrom_pure _ _)
                        ⟨hm0, Below.refl _ _, KeepsFrom.refl _ _⟩
                        (fun y a'' W' => ∃ Bh T, W.heap.size < Bh ∧ Blk W' Bh (cg y) 45 ∧ FrI w.heap.size W.heap.size Bh T ∧ a'' = { tmps := T, defers := [] })
                        (fun y a'' _ X Y row hs hg hr => by obtain ⟨Bh, T, h1, h2, h3, h4⟩ := hs; exact ⟨Bh, T, h1, blk_own Bh (fun (_ : Unit) => cg y) 45 () X Y row h2 hg (fun r e => (hr r e).2), h3, h4⟩)
                        ?assign2 ?body2 ?done2 ?stop2
                      case assign2 =>
                        rintro l2 pre' y W' KK ⟨hm, hbm, hkf⟩ hKK
                        have hKK2 := hid hKK
                        have hml := hm.lt
                        have hI2 : Blk (W'.alloc (.cells (cg y).toArray 45)) W.heap.size [.int .i64 ((pre'.length : Nat) : Int)] 3 ∧ (Below W.heap.size WC (W'.alloc (.cells (cg y).toArray 45)) ∧ KeepsFrom 0 WC (W'.alloc (.cells (cg y).toArray 45))) :=
                          ⟨hm.alloc _, hbm.alloc (by omega) _, hkf.trans ((KeepsOthers.alloc _ _).from _)⟩
                        have hN := Blk.new W' (cg y).toArray 45 rfl
                        obtain ⟨y0, y1, y2, y3⟩ := y
                        simp only [cg, encs] at *
                        clear hKK hm hbm hkf
                        gi_wp2
                        exact hKK2.out _ _ ((KeepsOthers.alloc _ _).from _) ((Below.refl _ _).alloc (by omega) _) hI2 ⟨W'.heap.size, _, hml, hN, FrI.of rfl, rfl⟩
                      case body2 =>
                        rintro l2 pre' y a'' W' hl2 _ ⟨hm, hbm, hkf⟩ ⟨Bh, T, hBh, bY, ⟨us3, rfl⟩, rfl⟩ hlt2
                        obtain ⟨z, hz⟩ := some_at (xs := gs) (i := pre'.length) hlt2
                        obtain ⟨bz, oz, hez, hbz, hgz⟩ := HS.out.1.glyph hz
                        cases hez
                        have hBC' : Below w.heap.size w W' := (HTB.out.trans (HCC.out.1.mono (by have := HTB.out.size; exact this))).trans (hbm.mono (by have := HTB.out.size; omega))
                        have hgw2 := hgz.below hBC' hbz
                        have hbWB : Below WB.heap.size WB W' := HCC.out.1.trans (hbm.mono (by omega))
                        have kf2 : W'.cell? ⟨w.heap.size, 1, none⟩ = some (.slice (some ⟨bg, og, none⟩) n ca) := (HF2.out.1.below hbWB).cell 1
                        have kr2 := (bx_below HF2.out.2 hbWB HF2.out.2.lt).frozen
                        have kr3 := (bx_below HF2.out.2 hbWB HF2.out.2.lt).cell
                        have hZ := hid hz
                        obtain ⟨k2, hk2e⟩ : ∃ k2, pre'.length = k2 := ⟨_, rfl⟩
                        have HK2 := hid hk2e
                        have hkn2 : k2 < n := by rw [← hk2e, ← HNN.out]; exact hlt2
                        have hk21 : (k2 : Int) < (n : Int) := by omega
                        have hk20 : (0 : Int) ≤ (k2 : Int) := by omega
                        have hk2n : ¬ (n : Int) ≤ (k2 : Int) := by omega
                        have hk2m : ¬ n ≤ k2 := by omega
                        have hk2f : decide (n ≤ k2) = false := decide_eq_false hk2m
                        have hk2t : (k2 : Int) < 1024 := by have := HNN.out; omega
                        rw [hk2e] at hm hgw2
                        have km : W'.cell? ⟨W.heap.size, 0, none⟩ = some (.int .i64 (k2 : Int)) := hm.cell 0
                        have kmf := hm.froz 0
                        have hne2 := fun V => neqG y z V
                        have HM2 := hid (And.intro hm (And.intro hbm hkf))
                        by_cases hyz : y = z
                        · subst hyz
                          obtain ⟨y0, y1, y2, y3⟩ := y
                          obtain ⟨e0, e1, e2, e3⟩ := hgw2
                          have d0 : W'.cell? ⟨Bh, 0, none⟩ = some (.int .i64 y0) := bY.cell 0
                          have d1 : W'.cell? ⟨Bh, 1, none⟩ = some (.int .i64 y1) := bY.cell 1
                          have d2 : W'.cell? ⟨Bh, 2, none⟩ = some (.int .i64 y2) := bY.cell 2
                          have d3 : W'.cell? ⟨Bh, 3, none⟩ = some (.int .i64 y3) := bY.cell 3
                          simp only [cg, decide_true, Bool.not_true] at hne2 e0 e1 e2 e3
                          clear hm hbm hkf bY hgz hz hlt2 HST2 hk2e hbWB hBC' hm0 hne
                          gi_wp2_with fail
                          refine wpIn_region_round (by kernel_rfl) (by kernel_rfl) (by kernel_rfl) ?_
                          repeat (gi_big_quiet_step (fail))
                          refine wpQuietIn_nil ?_
                          intro _ hw'
                          obtain ⟨nq2, hw''⟩ := hw'
                          subst hw''
                          gi_wp2_with fail
                          obtain ⟨q1, q2, q3⟩ := HM2.out
                          have o1 : Only [W.heap.size] W' ((W'.drewN nq2).setCell ⟨W.heap.size, 0, none⟩ (.int .i64 ((k2 : Int) + 1))) := ((Only.refl [W.heap.size] W').drewN nq2).set (p := ⟨W.heap.size, 0, none⟩) (.inl (by simp)) _
                          have k1 : KeepsOthers W' ((W'.drewN nq2).setCell ⟨W.heap.size, 0, none⟩ (.int .i64 ((k2 : Int) + 1))) := (keeps_drewN W' nq2).trans (KeepsOthers.setCell _ _ _)
                          have b1 := o1.toBelow (B := W.heap.size) (by have := q2.size; omega) (by intro z hz; rw [List.mem_singleton.1 hz]; exact Nat.le_refl _)
                          refine ⟨k1.from _, b1, ?_, q2.trans b1, q3.trans (k1.from _)⟩
                          rw [List.length_append, HK2.out]
                          exact (((Only.refl [] W').drewN nq2).blk q1 (by simp)).set 0 _
                        · have HYZ := hid hyz
                          rw [decide_eq_false hyz] at hne2
                          obtain ⟨y0, y1, y2, y3⟩ := y
                          obtain ⟨z0, z1, z2, z3⟩ := z
                          obtain ⟨e0, e1, e2, e3⟩ := hgw2
                          have d0 : W'.cell? ⟨Bh, 0, none⟩ = some (.int .i64 y0) := bY.cell 0
                          have d1 : W'.cell? ⟨Bh, 1, none⟩ = some (.int .i64 y1) := bY.cell 1
                          have d2 : W'.cell? ⟨Bh, 2, none⟩ = some (.int .i64 y2) := bY.cell 2
                          have d3 : W'.cell? ⟨Bh, 3, none⟩ = some (.int .i64 y3) := bY.cell 3
                          simp only [cg, Bool.not_false] at hne2 e0 e1 e2 e3
                          clear hm hbm hkf bY hgz hz hyz hlt2 HST2 hk2e hbWB hBC' hm0 hne
                          gi_wp2_with fail
                          refine wpIn_region_round (by kernel_rfl) (by kernel_rfl) (by kernel_rfl) ?_
                          repeat (gi_big_quiet_step (fail))
                          refine wpQuietIn_nil ?_
                          intro _ hw'
                          obtain ⟨nq2, hw''⟩ := hw'
                          subst hw''
                          gi_wp2_with fail
                          exact ⟨((keeps_drewN W' nq2).trans (KeepsOthers.setCell _ _ _)).from _, rfl, pre', _, _, rfl, hZ.out, HYZ.out⟩
                      case done2 =>
                        rintro ys W' hS ⟨hm, hbm, hkf⟩
                        rw [hS, HNN.out] at hm
                        have km : W'.cell? ⟨W.heap.size, 0, none⟩ = some (.int .i64 (n : Int)) := hm.cell 0
                        have kf2 : W'.cell? ⟨w.heap.size, 1, none⟩ = some (.slice (some ⟨bg, og, none⟩) n ca) := (HF2.out.1.below (HCC.out.1.trans (hbm.mono (by omega)))).cell 1
                        have HM2 := hid (And.intro hbm hkf)
                        clear hm hbm hkf HST2 hm0 hS
                        gi_wp2_with fail
                        obtain ⟨q2, q3⟩ := HM2.out
                        have c2 := HCC.out.2.1.trans (q2.mono (by omega))
                        refine ⟨((HCC.out.2.2.1).trans (keeps_others q3)).from _, c2, ⟨?_, ?_⟩, HXY.out.2.2.1.trans c2⟩
                        · have hlz := HXY.out.2.1.lt
                          rw [HPN.out, show ((k + 1 : Nat) : Int) = 2 by omega]
                          exact blk_of HCC.out.2.2.2.1 q2 (by omega)
                        · have hlz := HXY.out.2.1.lt
                          exact blk_of HCC.out.2.2.2.2 q2 (by omega)
                      case stop2 =>
                        rintro c pre' W' hSp ⟨_, hmis⟩
                        exact (hmis.not_prefix hSp).elim
                    · have hbn : ((k : Int) + 1 != 2) = true := by simpa using hk3
                      gi_wp2_with fail
                      refine wpIn_region_round (by kernel_rfl) (by kernel_rfl) (by kernel_rfl) ?_
                      repeat (gi_big_quiet_step (fail))
                      refine wpQuietIn_nil ?_
                      intro _ hw'
                      obtain ⟨nq, hw''⟩ := hw'
                      subst hw''
                      gi_wp2_with fail
                      obtain ⟨q1, q2, q3, q4⟩ := HCONT.out nq ((k : Int) + 1)
                      refine ⟨q1.from _, q2, ⟨?_, q4⟩, HXY.out.2.2.1.trans q2⟩
                      rw [HPN.out]; exact q3
              · have HXE := hid hxy
                rw [decide_eq_false hxy] at hne
                obtain ⟨x0, x1, x2, x3⟩ := x
                obtain ⟨y0, y1, y2, y3⟩ := y
                obtain ⟨c0, c1, c2, c3⟩ := hgw
                have d0 : W.cell? ⟨Bx, 0, none⟩ = some (.int .i64 x0) := bX.cell 0
                have d1 : W.cell? ⟨Bx, 1, none⟩ = some (.int .i64 x1) := bX.cell 1
                have d2 : W.cell? ⟨Bx, 2, none⟩ = some (.int .i64 x2) := bX.cell 2
                have d3 : W.cell? ⟨Bx, 3, none⟩ = some (.int .i64 x3) := bX.cell 3
                simp only [cg, Bool.not_false] at hne c0 c1 c2 c3
                clear hn hlf hb bX hga hy hxy hlt HST hk hbW hTB' HJ0
                simp only [cg]
                gi_wp2_with fail
                refine wpIn_region_round (by kernel_rfl) (by kernel_rfl) (by kernel_rfl) ?_
                repeat (gi_big_quiet_step (fail))
                refine wpQuietIn_nil ?_
                intro _ hw'
                obtain ⟨nq, hw''⟩ := hw'
                subst hw''
                gi_wp2_with fail
                exact ⟨((keeps_drewN W nq).trans (KeepsOthers.setCell _ _ _)).from _, .inr ⟨rfl, pre, _, _, rfl, HY.out, HXE.out⟩⟩
            case done =>
              rintro D ys W hD rfl ⟨⟨hn, hl⟩, hb⟩ hKD
              have hN2 := HNN.out
              rw [hN2] at hn
              have kn : W.cell? ⟨g + 1, 0, none⟩ = some (.int .i64 (n : Int)) := hn.cell 0
              have kl : W.cell? ⟨g + 1 + 1, 0, none⟩ = some (.bool false) := hl.cell 0
              have kf : W.cell? ⟨w.heap.size, 1, none⟩ = some (.slice ag n ca) := (HF2.out.1.below (by rw [hszB]; exact hb)).cell 1
              have ki := (bx_below HIB.out hb (by omega)).cell
              have HE := hid (HEND.out D W (by omega) hb hKD)
              clear hn hl hb hKD HST hN2
              gi_wp2_with fail
              refine hK2.out _ _ ?_
              gi_wp2_with fail
              rw [HK.out]
              exact ⟨⟨i + 1, RoundG.of (D :: Ds) rfl HE.out⟩, by simp [HD.out.1]; omega⟩
            case stop =>
              rintro D c pre W hD hpre (⟨⟨rfl, hl⟩, hb⟩ | ⟨_, hmis⟩) hKD
              case inr => exact (hmis.not_prefix hpre).elim
              have kl : W.cell? ⟨g + 1 + 1, 0, none⟩ = some (.bool true) := hl.cell 0
              have ki := (bx_below HIB.out hb (by omega)).cell
              have HE := hid (HEND.out D W (by omega) hb hKD)
              clear hl hb hKD HST
              gi_wp2_with fail
              refine hK2.out _ _ ?_
              gi_wp2_with fail
              rw [HK.out]
              exact ⟨⟨i + 1, RoundG.of (D :: Ds) rfl HE.out⟩, by simp [HD.out.1]; omega⟩
        · obtain ⟨⟨tF, tR, tB⟩, _, _, _⟩ := HW1.out wr HBL.out
          have kr := tR.frozen
          have krc := tR.cell
          have rr := (Boxed.set (.bool true) tR).cell
          have HRR := hid rr
          have HTB := hid tB
          clear tF tR tB rr
          by_cases h20 : (i : Int) ≤ (xs.length : Int)
          · have h21 : ¬ (i : Int) < 20 := fun e => hgo ⟨h20, e⟩
            have h22 : ¬ i < 20 := by omega
            have h23 : i ≤ xs.length := by omega
            gi_wp2_with fail
            exact goes_end rfl (n := b + 2) (by omega) (by omega) Ds _ HRR.out (by simp; omega) HD.out.2.1 (fun D hDm => ⟨(HD.out.2.2 D hDm).1, (KeepsOthers.setCell _ _ _).same _ _ (HD.out.2.2 D hDm).2 rfl⟩) (HTB.out.setCell (p := ⟨w.heap.size + 1, 0, none⟩) (by simp) _)
          · have h23 : ¬ i ≤ xs.length := by omega
            gi_wp2_with fail
            exact goes_end rfl (n := b + 2) (by omega) (by omega) Ds _ HRR.out (by simp; omega) HD.out.2.1 (fun D hDm => ⟨(HD.out.2.2 D hDm).1, (KeepsOthers.setCell _ _ _).same _ _ (HD.out.2.2 D hDm).2 rfl⟩) (HTB.out.setCell (p := ⟨w.heap.size + 1, 0, none⟩) (by simp) _)
    · have he := hwr hv
      subst he
      have hv' : (verd em gs ps == 0) = false := by simpa using hv
      have hv2 : (verd em gs ps != 0) = true := by simpa using hv
      have r1 := (HFR.out _ HB3.out).2.1.cell
      have r2 := (HFR.out _ HB3.out).2.1.frozen
      have rr := (Boxed.set (.bool (!decide (verd em gs ps = 0))) (HFR.out _ HB3.out).2.1).cell
      rw [show (!decide (verd em gs ps = 0)) = true by simpa using hv] at rr
      clear hwr hok hb HB2 HBB HN
      gi_wp2_with fail
      exact goes_end rfl (n := w.heap.size + 2) (by omega) (by omega) [] _ (by simpa using rr) (by simp; omega) List.nodup_nil (by simp) (HBW.out.setCell (p := ⟨w.heap.size + 1, 0, none⟩) (by simp) _)
end Go.Proofs.Ytnplplhhldpgmaa
