/- Faults and characters compared; lists of characters, lists of tokens that are alike. -/
import Derived.Test.YthlbbinlkmchjaaDoorMark
import Derived.Laws.StructEq
import Derived.BigQuiet
namespace Go.Proofs.YthlbbinlkmchjaaDoor
open Go.RowKit

theorem under35 : Tryd.prog.underlying 35 = some (.struct (Tryd.prog.fieldsOf 35)) := by kernel_rfl
theorem held35 : Tryd.prog.stoodInHeld 35 = false := by kernel_rfl
theorem fields35 : (Tryd.prog.fieldsOf 35).toList = [{ name := "Kind", type := 33, offset := 0, embedded := false, tag := "", pkgPath := "", byteOffset := 0 }, { name := "At", type := 3, offset := 1, embedded := false, tag := "", pkgPath := "", byteOffset := 8 }] := by kernel_rfl
theorem under50 : Tryd.prog.underlying 50 = some (.struct (Tryd.prog.fieldsOf 50)) := by kernel_rfl
theorem held50 : Tryd.prog.stoodInHeld 50 = false := by kernel_rfl
theorem fields50 : (Tryd.prog.fieldsOf 50).toList = [{ name := "Rune", type := 3, offset := 0, embedded := false, tag := "", pkgPath := "", byteOffset := 0 }, { name := "From", type := 3, offset := 1, embedded := false, tag := "", pkgPath := "", byteOffset := 8 }, { name := "To", type := 3, offset := 2, embedded := false, tag := "", pkgPath := "", byteOffset := 16 }] := by kernel_rfl
theorem part33 (cs : Array Value) (k : Nat) (x : Value) (hx : cs[k]? = some x) (w : World) : Sem.run Tryd.prog (Go.part 33 cs k) w = .ok x w := by
  simp [Go.part, Tryd.isAgg33, hx, Result.andThen]
theorem part3 (cs : Array Value) (k : Nat) (x : Value) (hx : cs[k]? = some x) (w : World) : Sem.run Tryd.prog (Go.part 3 cs k) w = .ok x w := by
  simp [Go.part, Tryd.isAgg3, hx, Result.andThen]
theorem eqInt (d : Nat) (a b : Int) (w : World) : Sem.run Tryd.prog (Op.equalIn (d + 1) 3 (.int .i64 a) (.int .i64 b)) w = .ok (a == b) w := run_equalIn_int w d 3 .i64 .i64 a b Tryd.underlying3
theorem equalF (a b c d : Int) (w : World) : Sem.run Tryd.prog (Op.equalIn 10000 35 (.agg #[.int .i64 a, .int .i64 b]) (.agg #[.int .i64 c, .int .i64 d])) w = .ok ((a == c) && (b == d)) w := by
  rw [run_equalIn_agg w 9999 35 _ _ under35 held35, fields35]
  have p0 := part33 #[.int .i64 a, .int .i64 b] 0 (.int .i64 a) rfl
  have p1 := part3 #[.int .i64 a, .int .i64 b] 1 (.int .i64 b) rfl
  have q0 := part33 #[.int .i64 c, .int .i64 d] 0 (.int .i64 c) rfl
  have q1 := part3 #[.int .i64 c, .int .i64 d] 1 (.int .i64 d) rfl
  have e0 : ∀ w, Sem.run Tryd.prog (Op.equalIn 9999 33 (.int .i64 a) (.int .i64 c)) w = .ok (a == c) w := fun w => run_equalIn_int w 9998 33 .i64 .i64 a c Tryd.underlying33
  have e1 := eqInt 9998 b d
  simp only [Nat.reduceAdd] at e1
  generalize (a == c) = c0 at *
  generalize (b == d) = c1 at *
  cases c0 <;> cases c1 <;> simp [Op.eqFields, p0, p1, q0, q1, e0, e1, Result.andThen]
theorem eqlF (a b c d : Int) (w : World) : Sem.run Tryd.prog (binOp .eql 35 (.agg #[.int .i64 a, .int .i64 b]) (.agg #[.int .i64 c, .int .i64 d])) w = .ok (.bool ((a == c) && (b == d))) w := by
  rw [run_eql_struct, equalF]; rfl
theorem neqF (a b c d : Int) (w : World) : Sem.run Tryd.prog (binOp .neq 35 (.agg #[.int .i64 a, .int .i64 b]) (.agg #[.int .i64 c, .int .i64 d])) w = .ok (.bool (!((a == c) && (b == d)))) w := by
  rw [run_neq_struct, equalF]; rfl
theorem equalC (a b c a' b' c' : Int) (w : World) : Sem.run Tryd.prog (Op.equalIn 10000 50 (.agg #[.int .i64 a, .int .i64 b, .int .i64 c]) (.agg #[.int .i64 a', .int .i64 b', .int .i64 c'])) w = .ok ((a == a') && ((b == b') && (c == c'))) w := by
  rw [run_equalIn_agg w 9999 50 _ _ under50 held50, fields50]
  have p0 := part3 #[.int .i64 a, .int .i64 b, .int .i64 c] 0 (.int .i64 a) rfl
  have p1 := part3 #[.int .i64 a, .int .i64 b, .int .i64 c] 1 (.int .i64 b) rfl
  have p2 := part3 #[.int .i64 a, .int .i64 b, .int .i64 c] 2 (.int .i64 c) rfl
  have q0 := part3 #[.int .i64 a', .int .i64 b', .int .i64 c'] 0 (.int .i64 a') rfl
  have q1 := part3 #[.int .i64 a', .int .i64 b', .int .i64 c'] 1 (.int .i64 b') rfl
  have q2 := part3 #[.int .i64 a', .int .i64 b', .int .i64 c'] 2 (.int .i64 c') rfl
  have e0 := eqInt 9998 a a'
  have e1 := eqInt 9998 b b'
  have e2 := eqInt 9998 c c'
  simp only [Nat.reduceAdd] at e0 e1 e2
  generalize (a == a') = c0 at *
  generalize (b == b') = c1 at *
  generalize (c == c') = c2 at *
  cases c0 <;> cases c1 <;> cases c2 <;> simp [Op.eqFields, p0, p1, p2, q0, q1, q2, e0, e1, e2, Result.andThen]
theorem neqC (a b c : Int) (w : World) : Sem.run Tryd.prog (binOp .neq 50 (.agg #[.int .i64 a, .int .i64 b, .int .i64 c]) (.agg #[.int .i64 a, .int .i64 b, .int .i64 c])) w = .ok (.bool false) w := by
  rw [run_neq_struct, equalC]; simp
theorem guard50 : Tryd.prog.eqGuardType Tryd.prog.depth 50 = false := by kernel_rfl
theorem guard35 : Tryd.prog.eqGuardType Tryd.prog.depth 35 = false := by kernel_rfl
theorem bl_inj {a b : ByteArray} (h : bl a = bl b) : a = b := by
  cases a with | mk x => cases b with | mk y =>
  congr 1
  unfold bl at h
  have h2 : ∀ l m : List UInt8, l.map UInt8.toNat = m.map UInt8.toNat → l = m := by
    intro l
    induction l with
    | nil => intro m h; cases m with
      | nil => rfl
      | cons _ _ => simp at h
    | cons u l ih => intro m h; cases m with
      | nil => simp at h
      | cons v m =>
        simp only [List.map_cons, List.cons.injEq] at h
        rw [ih m h.2, UInt8.toNat_inj.1 h.1]
  have := h2 _ _ h
  exact Array.ext' this

/-- a character's three cells -/
theorem Sl.char {W : World} {ad : Option Addr} {ys : List (Nat × Nat × Nat)} (h : Sl W ad ys.length (ys.flatMap chc)) {i : Nat} {x : Nat × Nat × Nat} (hi : ys[i]? = some x) :
    ∃ b off, ad = some ⟨b, off, none⟩ ∧ b < W.heap.size ∧ W.cell? ⟨b, off + i * 3, none⟩ = some (.int .i64 x.1) ∧ W.cell? ⟨b, off + i * 3 + 1, none⟩ = some (.int .i64 x.2.1) ∧ W.cell? ⟨b, off + i * 3 + 2, none⟩ = some (.int .i64 x.2.2) := by
  have h0 : ys.length ≠ 0 := fun e => by
    rw [List.eq_nil_of_length_eq_zero e] at hi; simp at hi
  obtain ⟨b, off, e, ha⟩ := h h0
  have f := fun c (hc : c < 3) => flat_get (enc := chc) chc_len hc hi
  exact ⟨b, off, e, ha.1, ha.2 (i * 3) _ (f 0 (by decide)), ha.2 (i * 3 + 1) _ (f 1 (by decide)), ha.2 (i * 3 + 2) _ (f 2 (by decide))⟩
set_option maxRecDepth 100000 in
set_option maxHeartbeats 4000000 in
theorem chars_true (ys : List (Nat × Nat × Nat)) (a1 a2 : Option Addr) (c1 c2 : Nat) (w : World) (hg : ys.length ≤ 9223372036854775807) (sa : Sl w a1 ys.length (ys.flatMap chc)) (sb : Sl w a2 ys.length (ys.flatMap chc)) :
    Calls Tryd.prog 23 #[.slice a1 ys.length c1, .slice a2 ys.length c2] w fun e w' => e = .returned (.bool true) ∧ ∃ n, w' = w.drewN n := by
  have HSA := hid (And.intro sa sb)
  obtain ⟨n, hn⟩ : ∃ n, ys.length = n := ⟨_, rfl⟩
  have HN := hid hn
  rw [hn] at hg ⊢
  clear sa sb hn
  go_enter Tryd.func23, Tryd.ntmps23
  go_wp2_with fail
  go_loopw [13] (fun vi wr => ∃ k : Nat, vi = .int .i64 k ∧ k ≤ n ∧ ∃ d, wr = w.drewN d) (fun vi _ => n - (RowKit.intOf vi).toNat)
  case atStart => exact ⟨0, rfl, by omega, 0, rfl⟩
  case round =>
    obtain ⟨k, rfl, hk, d, rfl⟩ := hrel
    by_cases hlt : k < n
    · obtain ⟨x, hgk⟩ := some_at (xs := ys) (i := k) (by rw [HN.out]; exact hlt)
      obtain ⟨b, off, rfl, hbl, e0, e1, e2⟩ := HSA.out.1.char hgk
      obtain ⟨b', off', rfl, hbl', f0, f1, f2⟩ := HSA.out.2.char hgk
      have hkl : (k : Int) < (n : Int) := by omega
      have hk0 : (0 : Int) ≤ (k : Int) := by omega
      have hq := neqC x.1 x.2.1 x.2.2
      have hgd := guard50
      have HLT := hid hlt
      clear hbl hbl' hgk hlt
      go_wp2_with fail
      go_quiet (fail)
      go_wp2
      go_roundw
      case rel => exact ⟨k + 1, by go_num, HLT.out, _, rfl⟩
      case measure => have := HLT.out; simp [RowKit.intOf]; omega
    · have hkl : ¬ (k : Int) < (n : Int) := by omega
      clear hlt
      go_wp2_with fail
      go_ret
      exact ⟨rfl, _, rfl⟩
end Go.Proofs.YthlbbinlkmchjaaDoor
