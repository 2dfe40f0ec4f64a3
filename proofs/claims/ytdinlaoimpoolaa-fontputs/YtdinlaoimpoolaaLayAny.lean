/- The writer: a number of any part. -/
import Derived.Test.YtdinlaoimpoolaaLay2
import Derived.Test.YtdinlaoimpoolaaLay3
import Derived.Test.YtdinlaoimpoolaaLay4
namespace Go.Proofs.Ytdinlaoimpoolaa
open Go.RowKit

theorem lay_any (p n a b room : Nat) (bs : List Nat) (w : World) (hp : p ≤ 15) (hn : n < 4294967296) (hW : Wr w a b room bs) (hroom : bs.length + sz p ≤ room) (hr : room ≤ 1000000) :
    Calls Try.prog 51 #[.pointer (some ⟨a, 0, none⟩), .int .i64 p, .int .i64 n] w fun e w' => e = .returned (.tuple #[]) ∧ Wr w' a b room (bs ++ be (sz p) n) ∧ Only [a, b] w w' := by
  have hk4 : sz p = 1 ∨ sz p = 2 ∨ sz p = 3 ∨ sz p = 4 := by
    have hc : p = 0 ∨ p = 1 ∨ p = 2 ∨ p = 3 ∨ p = 4 ∨ p = 5 ∨ p = 6 ∨ p = 7 ∨ p = 8 ∨ p = 9 ∨ p = 10 ∨ p = 11 ∨ p = 12 ∨ p = 13 ∨ p = 14 ∨ p = 15 := by omega
    rcases hc with rfl | rfl | rfl | rfl | rfl | rfl | rfl | rfl | rfl | rfl | rfl | rfl | rfl | rfl | rfl | rfl <;> decide
  rcases hk4 with e | e | e | e
  · rw [e] at hroom ⊢; exact layK1 p n a b room bs w hp e hn hW hroom hr
  · rw [e] at hroom ⊢; exact layK2 p n a b room bs w hp e hn hW hroom hr
  · rw [e] at hroom ⊢; exact layK3 p n a b room bs w hp e hn hW hroom hr
  · rw [e] at hroom ⊢; exact layK4 p n a b room bs w hp e hn hW hroom hr
end Go.Proofs.Ytdinlaoimpoolaa
