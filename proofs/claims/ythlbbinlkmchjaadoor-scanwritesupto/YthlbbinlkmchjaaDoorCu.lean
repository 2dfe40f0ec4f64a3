/- The cutter in memory; its smallest calls: ahead, step, refused, wrong, letter, digit. -/
import Derived.Test.YthlbbinlkmchjaaDoorPay
import Derived.Test.YthlbbinlkmchjaaDoorSmall
namespace Go.Proofs.YthlbbinlkmchjaaDoor
open Go.RowKit

def ccells (mb : Nat) (s : ByteArray) (p : Nat) (v : Value) (F : Int × Int) : List Value := [.pointer (some ⟨mb, 0, none⟩), .string s, .int .i64 p, v, .int .i64 F.1, .int .i64 F.2]
/-- a cutter that may go on, at place p -/
structure Cu (w : World) (cb mb : Nat) (s : ByteArray) (p : Nat) (v : Value) (m : M) : Prop where
  c : Blk w cb (ccells mb s p v (0, 0)) 64
  mt : Blk w mb m.cells 68
  ne : cb ≠ mb
  ok : m.Ok
  why : m.why = 0
  le : p ≤ s.size
  sz : s.size ≤ 4294967296
/-- one whose fault was told -/
structure Cx (w : World) (cb mb : Nat) (s : ByteArray) (m : M) (F : Int × Int) : Prop where
  c : ∃ p v, Blk w cb (ccells mb s p v F) 64
  mt : Blk w mb m.cells 68
  ok : m.Ok
/-- what follows in the text -/
def rest (s : ByteArray) (p : Nat) : List Nat := (bl s).drop p
theorem rest_length (s : ByteArray) (p : Nat) : (rest s p).length = s.size - p := by rw [rest, List.length_drop, bl_length]
theorem rest_drop (s : ByteArray) (p n : Nat) : (rest s p).drop n = rest s (p + n) := by rw [rest, rest, List.drop_drop]
theorem rest_head (s : ByteArray) (p : Nat) : (rest s p).head? = (bl s)[p]? := by rw [rest, List.head?_drop]
def aheadI : Option Nat → Int
  | none => -1
  | some b => b
/-- the post of what answers whether it may go on -/
def PB (w' : World) (cb mb : Nat) (s : ByteArray) (v : Value) (o : O Unit) (e : Ending) : Prop := match o.2 with
  | .ok x => e = .returned (.bool true) ∧ Cu w' cb mb s x.2 v o.1
  | .error F => e = .returned (.bool false) ∧ Cx w' cb mb s o.1 F
def PV {α : Type} (ev : α → Nat → Value → Prop) (ez : Value → Prop) (w' : World) (cb mb : Nat) (s : ByteArray) (v : Value) (o : O α) (e : Ending) : Prop := match o.2 with
  | .ok x => (∃ z, e = .returned (.tuple #[z, .bool true]) ∧ ev x.1 x.2 z) ∧ Cu w' cb mb s x.2 v o.1
  | .error F => (∃ z, e = .returned (.tuple #[z, .bool false]) ∧ ez z) ∧ Cx w' cb mb s o.1 F
theorem byte_rest (s : ByteArray) (p : Nat) (h : p < s.size) : (rest s p).head? = some (s[p]'h).toNat := by
  rw [rest_head, bl_at s p h, List.getD_eq_getElem?_getD, List.getElem?_eq_getElem (by rw [bl_length]; exact h)]
  rfl

theorem Cu.drewN {w : World} {cb mb : Nat} {s : ByteArray} {p : Nat} {v : Value} {m : M} (h : Cu w cb mb s p v m) (n : Nat) : Cu (w.drewN n) cb mb s p v m :=
  ⟨h.c.drewN n, h.mt.drewN n, h.ne, h.ok, h.why, h.le, h.sz⟩
theorem Cu.only {w w' : World} {cb mb : Nat} {s : ByteArray} {p : Nat} {v : Value} {m : M} (h : Cu w cb mb s p v m) (k : Only [] w w') : Cu w' cb mb s p v m :=
  ⟨k.blk h.c (by simp), k.blk h.mt (by simp), h.ne, h.ok, h.why, h.le, h.sz⟩
theorem Cu.alloc {w : World} {cb mb : Nat} {s : ByteArray} {p : Nat} {v : Value} {m : M} (h : Cu w cb mb s p v m) (o : Obj) : Cu (w.alloc o) cb mb s p v m :=
  ⟨h.c.alloc o, h.mt.alloc o, h.ne, h.ok, h.why, h.le, h.sz⟩
theorem drewN_two (w : World) (a b : Nat) : (w.drewN a).drewN b = w.drewN (a + b) := by
  induction b with
  | zero => rfl
  | succ b ih => show ((w.drewN a).drewN b).drew = (w.drewN (a + b)).drew; rw [ih]
theorem only_drewN (w : World) (n : Nat) : Only [] w (w.drewN n) := (Only.refl _ _).drewN n

set_option maxHeartbeats 1000000 in
theorem ahead_any {w : World} {cb mb : Nat} {s : ByteArray} {p : Nat} {v : Value} {m : M} (h : Cu w cb mb s p v m) :
    Calls Tryd.prog 60 #[.pointer (some ⟨cb, 0, none⟩)] w fun e w' => e = .returned (.int .i64 (aheadI (rest s p).head?)) ∧ ∃ n, w' = w.drewN n := by
  have c1 : w.cell? ⟨cb, 1, none⟩ = some (.string s) := h.c.cell 1
  have c2 : w.cell? ⟨cb, 2, none⟩ = some (.int .i64 p) := h.c.cell 2
  have hsz := h.sz
  have hle := h.le
  clear h
  by_cases hp : p < s.size
  · have hb := byte_rest s p hp
    have hu := (s[p]'hp).toNat_lt
    have HB : Hid (aheadI (rest s p).head? = ((s[p]'hp).toNat : Int)) := by rw [hb]; rfl
    have h1 : ¬ (p : Int) = (s.size : Int) := by omega
    obtain ⟨x, hx⟩ : ∃ x, s[p]'hp = x := ⟨_, rfl⟩
    rw [hx] at HB hu
    clear hb
    go_enter Tryd.func60, Tryd.ntmps60
    go_wp2
    go_quiet (fail)
    go_wp2
    go_quiet (fail)
    go_wp2
    go_ret
    refine ⟨ret_int ?_, _, drewN_two _ _ _⟩
    exact HB.out.symm
  · have hb : (rest s p).head? = none := by rw [rest_head, List.getElem?_eq_none (by rw [bl_length]; omega)]
    have HB : Hid (aheadI (rest s p).head? = -1) := by rw [hb]; rfl
    have h1 : p = s.size := by omega
    subst h1
    clear hb
    go_enter Tryd.func60, Tryd.ntmps60
    go_wp2
    go_quiet (fail)
    go_wp2
    go_ret
    exact ⟨ret_int HB.out.symm, _, rfl⟩
theorem letter_any (b : Int) (w : World) : Calls Tryd.prog 85 #[.int .i64 b] w fun e w' => e = .returned (.bool (decide ((97 ≤ b ∧ b ≤ 122) ∨ (65 ≤ b ∧ b ≤ 90)))) ∧ w' = w := by
  rcases (by omega : b < 65 ∨ (65 ≤ b ∧ b ≤ 90) ∨ (90 < b ∧ b < 97) ∨ (97 ≤ b ∧ b ≤ 122) ∨ 122 < b) with h | ⟨h, h'⟩ | ⟨h, h'⟩ | ⟨h, h'⟩ | h
  all_goals
    go_enter Tryd.func85, Tryd.ntmps85
    go_wp2
  all_goals first | (exfalso; omega) | skip
  all_goals
    go_ret
    exact ⟨ret_bool (by first | (simp; done) | (simp; omega) | (rw [Bool.eq_iff_iff]; simp; omega)), rfl⟩
def digI (b : Int) : Int := if 48 ≤ b ∧ b ≤ 57 then b - 48 else if 97 ≤ b ∧ b ≤ 102 then b - 87 else if 65 ≤ b ∧ b ≤ 70 then b - 55 else -1
theorem digit_any (b : Int) (w : World) (h0 : -1 ≤ b) (h1 : b ≤ 255) : Calls Tryd.prog 111 #[.int .i64 b] w fun e w' => e = .returned (.int .i64 (digI b)) ∧ w' = w := by
  rcases (by omega : b < 48 ∨ (48 ≤ b ∧ b ≤ 57) ∨ (57 < b ∧ b < 65) ∨ (65 ≤ b ∧ b ≤ 70) ∨ (70 < b ∧ b < 97) ∨ (97 ≤ b ∧ b ≤ 102) ∨ 102 < b) with h | ⟨h, h'⟩ | ⟨h, h'⟩ | ⟨h, h'⟩ | ⟨h, h'⟩ | ⟨h, h'⟩ | h
  all_goals
    go_enter Tryd.func111, Tryd.ntmps111
    go_wp2
  all_goals first | (exfalso; omega) | skip
  all_goals
    go_ret
    refine ⟨ret_int ?_, rfl⟩
    unfold digI
    repeat' split
  all_goals omega
end Go.Proofs.YthlbbinlkmchjaaDoor
