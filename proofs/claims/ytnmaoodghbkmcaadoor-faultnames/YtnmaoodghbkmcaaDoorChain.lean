/- errors.Is at a chain of this program's errors: the six errors, what a kind is told as inside, a Located, and what wraps these. Go's own text of errors.Is is walked. 'A g' is where the error of global g lies: 0 ErrText, 1 ErrSyntax, 2 ErrBudget, 3 ErrFont, 4 ErrLimit, 5 ErrRange. -/
import Derived.Test.YtnmaoodghbkmcaaDoorMem
import Derived.Test.YtnmaoodghbkmcaaDoorFacts
import Derived.Deep.LoopGhost
namespace Go.Proofs.YtnmaoodghbkmcaaDoor
open Go.RowKit Go.Extern.Stop Go.Stop Go.Extern

/-- what the listed variables hold -/
structure Gl (A : Nat → Addr) (w : World) : Prop where
  cell : ∀ g, g < 6 → w.cell? ⟨g, 0, none⟩ = some (.iface 90 (.pointer (some (A g))))
  inj : ∀ i j, i < 6 → j < 6 → A i = A j → i = j
  blk : ∀ g, g < 6 → ∃ c t, w.heap[(A g).block]? = some (.cells c t (0, 0))
  hand : w.cell? ⟨6, 0, none⟩ = some (.iface 67 (.agg #[.pointer (some ⟨10, 27, none⟩)]))

theorem cell_lt {w : World} {b i : Nat} {v : Value} (h : w.cell? ⟨b, i, none⟩ = some v) : b < w.heap.size := by
  rcases Nat.lt_or_ge b w.heap.size with g | g
  · exact g
  · simp [World.cell?, Array.getElem?_eq_none g] at h
theorem Only.cell {w w' : World} {b i : Nat} {v : Value} (h : Only [] w w') (hc : w.cell? ⟨b, i, none⟩ = some v) : w'.cell? ⟨b, i, none⟩ = some v := by
  have := h.block b (cell_lt hc) (by simp)
  rw [World.cell?_of_block (w := w) this]; exact hc
theorem heap_lt {w : World} {b : Nat} {o : Obj} (h : w.heap[b]? = some o) : b < w.heap.size := by
  rcases Nat.lt_or_ge b w.heap.size with g | g
  · exact g
  · rw [Array.getElem?_eq_none g] at h; cases h
theorem Gl.only {A : Nat → Addr} {w w' : World} (h : Gl A w) (k : Only [] w w') : Gl A w' where
  cell := fun g hg => k.cell (h.cell g hg)
  inj := h.inj
  blk := fun g hg => by
    obtain ⟨c, t, e⟩ := h.blk g hg
    exact ⟨c, t, (k.block _ (heap_lt e) (by simp)).trans e⟩
  hand := k.cell h.hand

/-- the kinds: number, name, the global that holds the class -/
def tab : List (Int × ByteArray × Nat) := [
  (20, { data := #[115, 116, 101, 112, 115] }, 2),
  (21, { data := #[99, 101, 108, 108, 115] }, 2),
  (40, { data := #[98, 121, 116, 101] }, 0),
  (60, { data := #[102, 111, 114, 109] }, 3),
  (61, { data := #[115, 117, 109] }, 3),
  (70, { data := #[109, 97, 114, 107, 117, 112] }, 1),
  (71, { data := #[101, 110, 116, 105, 116, 121] }, 1),
  (72, { data := #[108, 111, 110, 103] }, 4),
  (80, { data := #[108, 101, 110, 103, 116, 104] }, 1),
  (81, { data := #[114, 97, 110, 103, 101] }, 5),
  (100, { data := #[116, 97, 103] }, 1),
  (101, { data := #[99, 108, 111, 115, 101] }, 1),
  (102, { data := #[116, 119, 105, 99, 101] }, 1),
  (103, { data := #[100, 101, 101, 112] }, 4),
  (104, { data := #[110, 111, 100, 101, 115] }, 4),
  (105, { data := #[101, 110, 100] }, 1),
  (110, { data := #[102, 111, 110, 116] }, 3),
  (111, { data := #[110, 111, 110, 101] }, 3),
  (120, { data := #[103, 108, 121, 112, 104] }, 3),
  (130, { data := #[105, 116, 101, 109, 115] }, 4),
  (150, { data := #[98, 114, 101, 97, 107, 115] }, 4)]
/-- a kind's name, and the global that holds its class -/
def info (k : Int) : Option (ByteArray × Nat) := (tab.find? fun r => k == r.1).map (·.2)
/-- a kind's class -/
def clsOf (k : Int) : Option Nat := (info k).map (·.2)
theorem tab_lt : ∀ r ∈ tab, r.2.2 < 6 := by
  intro r hr
  simp only [tab, List.mem_cons, List.not_mem_nil, or_false] at hr
  rcases hr with rfl | rfl | rfl | rfl | rfl | rfl | rfl | rfl | rfl | rfl | rfl | rfl | rfl | rfl | rfl | rfl | rfl | rfl | rfl | rfl | rfl <;> decide
theorem info_lt {k : Int} {x : ByteArray × Nat} (h : info k = some x) : x.2 < 6 := by
  obtain ⟨r, hr, rfl⟩ := Option.map_eq_some_iff.1 h
  exact tab_lt r (List.mem_of_find?_eq_some hr)
theorem clsOf_lt {k : Int} {g : Nat} (h : clsOf k = some g) : g < 6 := by
  obtain ⟨x, hx, rfl⟩ := Option.map_eq_some_iff.1 h
  exact info_lt hx
/-- an error, or nil -/
def clsV (A : Nat → Addr) : Option Nat → Value
  | none => .nilIface
  | some g => .iface 90 (.pointer (some (A g)))

/-- an error of a chain: of which class it is, how many errors at most are in it. 'L': may a Located be there? -/
def Ch (A : Nat → Addr) (L : Bool) (w : World) : Value → Option Nat → Nat → Prop
  | _, _, 0 => False
  | E, c, d + 1 =>
    (∃ a g, g < 6 ∧ a = A g ∧ E = .iface 90 (.pointer (some a)) ∧ c = some g) ∨
    (∃ s a g, g < 6 ∧ a = A g ∧ E = .iface 60 (.agg #[.string s, .iface 90 (.pointer (some a))]) ∧ c = some g ∧ 1 ≤ d) ∨
    (∃ n, E = .iface 61 (.int .i64 n) ∧ c = none) ∨
    (∃ p at_ k, L = true ∧ Blk w p [.int .i64 at_, .int .i64 k] 39 ∧ E = .iface 36 (.pointer (some ⟨p, 0, none⟩)) ∧ c = clsOf k ∧ 1 ≤ d) ∨
    ∃ E1, E = .iface 44 (.agg #[E1]) ∧ Ch A L w E1 c d
theorem Ch.sent {A : Nat → Addr} {L : Bool} {w : World} (a : Addr) (g : Nat) (hg : g < 6) (ha : a = A g) : Ch A L w (.iface 90 (.pointer (some a))) (some g) 1 := .inl ⟨a, g, hg, ha, rfl, rfl⟩
theorem Ch.known {A : Nat → Addr} {L : Bool} {w : World} (s : ByteArray) (a : Addr) (g : Nat) (hg : g < 6) (ha : a = A g) : Ch A L w (.iface 60 (.agg #[.string s, .iface 90 (.pointer (some a))])) (some g) 2 :=
  .inr (.inl ⟨s, a, g, hg, ha, rfl, rfl, Nat.le_refl _⟩)
theorem Ch.number {A : Nat → Addr} {L : Bool} {w : World} (n : Int) : Ch A L w (.iface 61 (.int .i64 n)) none 1 := .inr (.inr (.inl ⟨n, rfl, rfl⟩))
theorem Ch.loc {A : Nat → Addr} {L : Bool} {w : World} (p : Nat) (at_ k : Int) (hl : L = true) (hb : Blk w p [.int .i64 at_, .int .i64 k] 39) : Ch A L w (.iface 36 (.pointer (some ⟨p, 0, none⟩))) (clsOf k) 2 :=
  .inr (.inr (.inr (.inl ⟨p, at_, k, hl, hb, rfl, rfl, Nat.le_refl _⟩)))
theorem Ch.wrap {A : Nat → Addr} {L : Bool} {w : World} (E : Value) (c : Option Nat) (d : Nat) (h : Ch A L w E c d) : Ch A L w (.iface 44 (.agg #[E])) c (d + 1) := .inr (.inr (.inr (.inr ⟨E, rfl, h⟩)))
theorem Ch.only {A : Nat → Addr} {L : Bool} {w w' : World} {E : Value} {c : Option Nat} {d : Nat} (h : Ch A L w E c d) (k : Only [] w w') : Ch A L w' E c d := by
  induction d generalizing E with
  | zero => exact h.elim
  | succ d ih =>
    rcases h with h | h | h | ⟨p, a, q, hl, hb, e1, e2, e3⟩ | ⟨E1, e1, h1⟩
    · exact .inl h
    · exact .inr (.inl h)
    · exact .inr (.inr (.inl h))
    · exact .inr (.inr (.inr (.inl ⟨p, a, q, hl, k.blk hb (by simp), e1, e2, e3⟩)))
    · exact .inr (.inr (.inr (.inr ⟨E1, e1, ih h1⟩)))
theorem Ch.iface {A : Nat → Addr} {L : Bool} {w : World} {E : Value} {c : Option Nat} {d : Nat} (h : Ch A L w E c d) : ∃ u v, E = .iface u v := by
  cases d with
  | zero => exact h.elim
  | succ d =>
    rcases h with ⟨_, _, _, _, rfl, _⟩ | ⟨_, _, _, _, _, rfl, _⟩ | ⟨_, rfl, _⟩ | ⟨_, _, _, _, _, rfl, _⟩ | ⟨_, rfl, _⟩ <;> exact ⟨_, _, rfl⟩

/-- what a Located's Unwrap does -/
def UnwrapsAs (A : Nat → Addr) : Prop := ∀ (p : Nat) (at_ k : Int) (w : World), Gl A w → Blk w p [.int .i64 at_, .int .i64 k] 39 →
  Calls Tryd.prog 19 #[.pointer (some ⟨p, 0, none⟩)] w fun e w' => e = .returned (clsV A (clsOf k)) ∧ Only [] w w'

theorem wrapped_unwrap (E : Value) (w : World) : Calls Tryd.prog 67 #[.agg #[E]] w fun e w' => e = .returned E ∧ Only [] w w' := by
  go_enter Tryd.func67, Tryd.ntmps67
  go_wp2
  go_ret
  exact ⟨rfl, (Only.refl _ _).alloc _⟩
theorem known_unwrap (s : ByteArray) (E : Value) (w : World) : Calls Tryd.prog 69 #[.agg #[.string s, E]] w fun e w' => e = .returned E ∧ Only [] w w' := by
  go_enter Tryd.func69, Tryd.ntmps69
  go_wp2
  go_ret
  exact ⟨rfl, (Only.refl _ _).alloc _⟩

set_option maxRecDepth 1000000 in
set_option maxHeartbeats 1000000 in
theorem is_chain {A : Nat → Addr} {L : Bool} {w : World} {E : Value} {c : Option Nat} {d : Nat} {g : Nat} (hU : L = true → UnwrapsAs A) (hG : Gl A w) (hg : g < 6) (hch : Ch A L w E c d) (r : Bool) (hr : r = decide (c = some g)) :
    Calls Tryd.prog 22 #[E, .iface 90 (.pointer (some (A g))), .bool true] w fun e w' => e = .returned (.bool r) ∧ Only [] w w' := by
  have HR : Hid (r = decide (c = some g)) := hr
  clear hr
  obtain ⟨i, hi, hcmp⟩ := Option.map_eq_some_iff.1 tComp90
  obtain ⟨j, hj, hjs⟩ := Option.map_eq_some_iff.1 tSize127
  have n90 := noIs90
  have n36 := noIs36
  have n44 := noIs44
  have n60 := noIs60
  have n61 := noIs61
  have u90 := noUnwrap90
  have u61 := noUnwrap61
  have h36 := hasUnwrap36
  have h44 := hasUnwrap44
  have h60 := hasUnwrap60
  have v90 := noUnwraps90
  have v61 := noUnwraps61
  have m36 := mUnwrap36
  have m44 := mUnwrap44
  have m60 := mUnwrap60
  go_enter Tryd.func22, Tryd.ntmps22
  go_wp2
  go_loopg [0] d (fun k E' wl => Only [] w wl ∧ Ch A L wl E' c k)
  case atStart => exact ⟨Only.refl _ _, hch⟩
  case round =>
    obtain ⟨ho, hc'⟩ := hrel
    have hG' := hG.only ho
    have HG : Hid (Gl A wr) := hG'
    have HO : Hid (Only [] w wr) := ho
    cases gk with
    | zero => exact hc'.elim
    | succ d1 =>
    rcases hc' with ⟨a, g', hg', ha, rfl, hc⟩ | ⟨s, a, g', hg', ha, rfl, hc, hd⟩ | ⟨n, rfl, hc⟩ | ⟨p, at_, k, hl, hb, rfl, hc, hd⟩ | ⟨E1, rfl, h1⟩
    · subst ha
      subst hc
      obtain ⟨cb, tb, hb⟩ := hG'.blk g hg
      obtain ⟨ca, ta, hca⟩ := hG'.blk g' hg'
      by_cases hab : g' = g
      · subst hab
        have heq := run_eql_iface_ptr_same (P := Tryd.prog) wr (A g') Tryd.underlying27 Tryd.underlying90 hi hcmp hj
        go_wp2
        go_ret
        exact ⟨by rw [HR.out]; simp, HO.out⟩
      · have heq := run_eql_iface_ptr_other (P := Tryd.prog) wr Tryd.underlying27 Tryd.underlying90 hi hcmp hj (by rw [hjs]; decide) (fun e => hab (hG'.inj g' g hg' hg e)) hca hb
        go_wp2
        go_ret
        exact ⟨by rw [HR.out]; simp [hab], HO.out⟩
    · subst ha
      subst hc
      have hty := run_eql_iface_types (P := Tryd.prog) 60 90 (.agg #[.string s, .iface 90 (.pointer (some (A g')))]) (.pointer (some (A g))) Tryd.underlying27 (by decide) wr
      have HD : Hid (1 < d1 + 1) := by show 1 < d1 + 1; omega
      clear hd
      go_wp2_with (first | (go_at_call 69; refine (known_unwrap _ _ _).mono ?_; rintro e w' ⟨rfl, ho2⟩))
      go_roundg 1
      case measure => exact HD.out
      case rel => exact ⟨HO.out.trans ho2, .sent _ g' hg' rfl⟩
    · subst hc
      have hty := run_eql_iface_types (P := Tryd.prog) 61 90 (.int .i64 n) (.pointer (some (A g))) Tryd.underlying27 (by decide) wr
      go_wp2
      go_ret
      exact ⟨by rw [HR.out]; simp, HO.out⟩
    · have hty := run_eql_iface_types (P := Tryd.prog) 36 90 (.pointer (some ⟨p, 0, none⟩)) (.pointer (some (A g))) Tryd.underlying27 (by decide) wr
      have HB : Hid (Blk wr p [.int .i64 at_, .int .i64 k] 39) := hb
      have HD : Hid (1 < d1 + 1) := by show 1 < d1 + 1; omega
      clear hb hd
      cases hk : clsOf k with
      | none =>
        have hz : clsV A (clsOf k) = .nilIface := by rw [hk]; rfl
        have HU : Hid (UnwrapsAs A) := hU hl
        rw [hk] at hc
        subst hc
        go_wp2_with (first | (go_at_call 19; refine (HU.out p at_ k _ HG.out HB.out).mono ?_; rw [hz]; rintro e w' ⟨rfl, ho2⟩))
        go_ret
        exact ⟨by rw [HR.out]; simp, HO.out.trans ho2⟩
      | some g' =>
        have hg' := clsOf_lt hk
        have hz : clsV A (clsOf k) = .iface 90 (.pointer (some (A g'))) := by rw [hk]; rfl
        have HU : Hid (UnwrapsAs A) := hU hl
        rw [hk] at hc
        subst hc
        go_wp2_with (first | (go_at_call 19; refine (HU.out p at_ k _ HG.out HB.out).mono ?_; rw [hz]; rintro e w' ⟨rfl, ho2⟩))
        go_roundg 1
        case measure => exact HD.out
        case rel => exact ⟨HO.out.trans ho2, .sent _ g' hg' rfl⟩
    · have hty := run_eql_iface_types (P := Tryd.prog) 44 90 (.agg #[E1]) (.pointer (some (A g))) Tryd.underlying27 (by decide) wr
      obtain ⟨u1, v1, rfl⟩ := h1.iface
      have HC : Hid (Ch A L wr (.iface u1 v1) c d1) := h1
      clear h1
      go_wp2_with (first | (go_at_call 67; refine (wrapped_unwrap _ _).mono ?_; rintro e w' ⟨rfl, ho2⟩))
      go_roundg d1
      case measure => omega
      case rel => exact ⟨HO.out.trans ho2, HC.out.only ho2⟩
end Go.Proofs.YtnmaoodghbkmcaaDoor
