import Derived.Test.YtolccoghlclidaaRefS
import Derived.Test.YtolccoghlclidaaNear
import Derived.Deep.RegionHeld3
namespace Go.Proofs.Ytolccoghlclidaa
open Go.RowKit

/-- the boxes of a call of does -/
def Box (g : Nat) (pa pb : Addr) (a b c : Int) (w : World) : Prop :=
  w.cell? ⟨g, 0, none⟩ = some (.pointer (some pa)) ∧ w.cell? ⟨g, 1, none⟩ = some (.pointer (some pb)) ∧
  w.cell? ⟨g + 1, 2, none⟩ = some (.int .i64 a) ∧ w.cell? ⟨g + 1, 3, none⟩ = some (.int .i64 b) ∧ w.cell? ⟨g + 1, 4, none⟩ = some (.int .i64 c)
theorem Box.keep {g : Nat} {pa pb d : Addr} {a b c : Int} {f : Bool} {w w' : World} (h : Box g pa pb a b c w) (hu : Upd d f w w') (hd : d.block < g) (hg : g + 1 < w.heap.size) : Box g pa pb a b c w' := by
  obtain ⟨h1, h2, h3, h4, h5⟩ := h
  exact ⟨upd_keep hu h1 (by show g < _; omega) (by show g ≠ _; omega), upd_keep hu h2 (by show g < _; omega) (by show g ≠ _; omega), upd_keep hu h3 (by exact hg) (by show g + 1 ≠ _; omega), upd_keep hu h4 (by exact hg) (by show g + 1 ≠ _; omega), upd_keep hu h5 (by exact hg) (by show g + 1 ≠ _; omega)⟩

/-- two calls behind one another, one on each of the pair -/
structure Both (pa pb : Addr) (w w' : World) : Prop where
  ex : ∃ f wm, Upd pa f w wm ∧ Upd pb f wm w'

theorem Upd.from_drew {c : Addr} {b : Bool} {w w' : World} (h : Upd c b w.drew w') : Upd c b w w' := ⟨h.os, h.tape, h.output, h.size, h.cell, h.froz, h.block⟩
theorem box_new (w : World) (pa pb : Addr) (k on a b c : Int) (t1 t2 : TypeId) :
    Box w.heap.size pa pb a b c ((w.alloc (.cells #[.pointer (some pa), .pointer (some pb)] t1)).alloc (.cells #[.int .i64 k, .int .i64 on, .int .i64 a, .int .i64 b, .int .i64 c] t2)) := by
  refine ⟨?_, ?_, ?_, ?_, ?_⟩ <;> simp [go_sem]
theorem two_keep (w : World) (o1 o2 : Obj) {p : Addr} (h : p.block < w.heap.size) : ((w.alloc o1).alloc o2).cell? p = w.cell? p ∧ ((w.alloc o1).alloc o2).frozen? p = w.frozen? p ∧ p.block < ((w.alloc o1).alloc o2).heap.size ∧ w.heap.size + 1 < ((w.alloc o1).alloc o2).heap.size :=
  have hb : Below w.heap.size w ((w.alloc o1).alloc o2) := ((Below.refl _ _).alloc (Nat.le_refl _) o1).alloc (by simp) o2
  ⟨hb.cell h, hb.frozen h, Nat.lt_of_lt_of_le h hb.size, by simp⟩
theorem both_of {pa pb : Addr} {f : Bool} {w : World} {o1 o2 : Obj} {w1 w2 : World} (h1 : Upd pa f ((w.alloc o1).alloc o2).drew w1) (h2 : Upd pb f w1 w2) : Both pa pb w w2 :=
  ⟨f, w1, h1.from_drew.from_alloc.from_alloc, h2⟩

/-- what the walk of does is told: two calls, one on each, that answer the same -/
structure Twin (K1 K2 : Nat) (pa pb : Addr) (bad : Bool) (r : List Value) (n : Int) (f : Bool) : Prop where
  one : ∀ w : World, w.cell? pa = some (.bool bad) → w.frozen? pa = false → pa.block < w.heap.size → Calls Try.prog K1 (#[Value.pointer (some pa)] ++ r.toArray) w fun e w' => e = .returned (.int .i64 n) ∧ Upd pa f w w'
  two : ∀ w : World, w.cell? pb = some (.bool bad) → w.frozen? pb = false → Calls Try.prog K2 (#[Value.pointer (some pb)] ++ r.toArray) w fun e w' => e = .returned (.int .i64 n) ∧ Upd pb f w w'

set_option maxHeartbeats 1000000 in
theorem does_add (pa pb : Addr) (bad : Bool) (on a b c : Int) (w : World) (ha : w.cell? pa = some (.bool bad)) (hb : w.cell? pb = some (.bool bad)) (fa : w.frozen? pa = false) (fb : w.frozen? pb = false) (hne : pb.block ≠ pa.block) :
    Calls Try.prog 12 #[.agg #[.pointer (some pa), .pointer (some pb)], .agg #[.int .i64 1, .int .i64 on, .int .i64 a, .int .i64 b, .int .i64 c]] w fun e w' => e = .returned (.bool true) ∧ Both pa pb w w' := by
  have za := World.block_lt_of_cell? w _ ha
  have zb := World.block_lt_of_cell? w _ hb
  have T : Hid (Twin 19 20 pa pb bad [.int .i64 a, .int .i64 b] (toldV bad (allLen [a, b]) (lenB (a + b)) (cut (a + b))) (toldB bad (allLen [a, b]) (lenB (a + b)))) :=
    ⟨fun w h1 h2 h3 => add_any pa bad a b w h1 h2 h3, fun w h1 h2 => addR_any pb bad a b w h1 h2⟩
  obtain ⟨n, hn⟩ : ∃ n, toldV bad (allLen [a, b]) (lenB (a + b)) (cut (a + b)) = n := ⟨_, rfl⟩
  obtain ⟨f, hf⟩ : ∃ f, toldB bad (allLen [a, b]) (lenB (a + b)) = f := ⟨_, rfl⟩
  rw [hn, hf] at T
  clear hn hf
  have HBN := box_new w pa pb 1 on a b c 31 33
  have HKA := two_keep w (.cells #[.pointer (some pa), .pointer (some pb)] 31) (.cells #[.int .i64 1, .int .i64 on, .int .i64 a, .int .i64 b, .int .i64 c] 33) za
  have HKB := two_keep w (.cells #[.pointer (some pa), .pointer (some pb)] 31) (.cells #[.int .i64 1, .int .i64 on, .int .i64 a, .int .i64 b, .int .i64 c] 33) zb
  have HD : Hid (∀ w1 w2 : World, Upd pa f ((w.alloc (.cells #[.pointer (some pa), .pointer (some pb)] 31)).alloc (.cells #[.int .i64 1, .int .i64 on, .int .i64 a, .int .i64 b, .int .i64 c] 33)).drew w1 → Upd pb f w1 w2 → Both pa pb w w2) := fun w1 w2 h1 h2 => both_of h1 h2
  rw [ha, fa] at HKA
  rw [hb, fb] at HKB
  go_enter Try.func12, Try.ntmps12
  go_wp2_with fail
  obtain ⟨W0, hW0⟩ : ∃ W, ((w.alloc (.cells #[.pointer (some pa), .pointer (some pb)] 31)).alloc (.cells #[.int .i64 1, .int .i64 on, .int .i64 a, .int .i64 b, .int .i64 c] 33)) = W := ⟨_, rfl⟩
  rw [hW0] at HBN HKA HKB HD
  rw [hW0]
  obtain ⟨g, hg⟩ : ∃ g, w.heap.size = g := ⟨_, rfl⟩
  rw [hg] at HBN HKA HKB za zb
  rw [hg]
  have hS0 := HBN
  obtain ⟨k1, k2, k3, k4⟩ := HKA
  obtain ⟨l1, l2, l3, _⟩ := HKB
  clear HBN hW0 hg ha hb fa fb
  unfold Box at hS0
  go_region_held3 (fun w' => w'.cell? ⟨g, 0, none⟩ = some (.pointer (some pa)) ∧ w'.cell? ⟨g, 1, none⟩ = some (.pointer (some pb)) ∧ w'.cell? ⟨g + 1, 2, none⟩ = some (.int .i64 a) ∧ w'.cell? ⟨g + 1, 3, none⟩ = some (.int .i64 b) ∧ w'.cell? ⟨g + 1, 4, none⟩ = some (.int .i64 c))
    (first | exact kS2 | exact kS1 | exact hS0)
    (first
      | (go_at_call 19; refine (T.out.one _ (by exact k1) (by exact k2) (by exact k3)).mono ?_; rintro e w1 ⟨rfl, hu1⟩; have kS1 := Box.keep hS0 (Upd.from_drew hu1) za k4)
      | (go_at_call 20; refine (T.out.two _ (by exact upd_keep (Upd.from_drew hu1) l1 l3 hne) (by exact (Upd.otherF (Upd.from_drew hu1) l3 hne).trans l2)).mono ?_; rintro e w2 ⟨rfl, hu2⟩; have kS2 := Box.keep kS1 hu2 zb (Nat.lt_of_lt_of_le k4 hu1.size)))
  go_wp2_with fail
  go_ret
  exact ⟨by simp, HD.out _ _ hu1 hu2⟩
set_option maxHeartbeats 1000000 in
theorem does_sub (pa pb : Addr) (bad : Bool) (on a b c : Int) (w : World) (ha : w.cell? pa = some (.bool bad)) (hb : w.cell? pb = some (.bool bad)) (fa : w.frozen? pa = false) (fb : w.frozen? pb = false) (hne : pb.block ≠ pa.block) :
    Calls Try.prog 12 #[.agg #[.pointer (some pa), .pointer (some pb)], .agg #[.int .i64 2, .int .i64 on, .int .i64 a, .int .i64 b, .int .i64 c]] w fun e w' => e = .returned (.bool true) ∧ Both pa pb w w' := by
  have za := World.block_lt_of_cell? w _ ha
  have zb := World.block_lt_of_cell? w _ hb
  have T : Hid (Twin 17 21 pa pb bad [.int .i64 a, .int .i64 b] (toldV bad (allLen [a, b]) (lenB (a - b)) (cut (a - b))) (toldB bad (allLen [a, b]) (lenB (a - b)))) :=
    ⟨fun w h1 h2 h3 => sub_any pa bad a b w h1 h2 h3, fun w h1 h2 => subR_any pb bad a b w h1 h2⟩
  obtain ⟨n, hn⟩ : ∃ n, toldV bad (allLen [a, b]) (lenB (a - b)) (cut (a - b)) = n := ⟨_, rfl⟩
  obtain ⟨f, hf⟩ : ∃ f, toldB bad (allLen [a, b]) (lenB (a - b)) = f := ⟨_, rfl⟩
  rw [hn, hf] at T
  clear hn hf
  have HBN := box_new w pa pb 2 on a b c 31 33
  have HKA := two_keep w (.cells #[.pointer (some pa), .pointer (some pb)] 31) (.cells #[.int .i64 2, .int .i64 on, .int .i64 a, .int .i64 b, .int .i64 c] 33) za
  have HKB := two_keep w (.cells #[.pointer (some pa), .pointer (some pb)] 31) (.cells #[.int .i64 2, .int .i64 on, .int .i64 a, .int .i64 b, .int .i64 c] 33) zb
  have HD : Hid (∀ w1 w2 : World, Upd pa f ((w.alloc (.cells #[.pointer (some pa), .pointer (some pb)] 31)).alloc (.cells #[.int .i64 2, .int .i64 on, .int .i64 a, .int .i64 b, .int .i64 c] 33)).drew w1 → Upd pb f w1 w2 → Both pa pb w w2) := fun w1 w2 h1 h2 => both_of h1 h2
  rw [ha, fa] at HKA
  rw [hb, fb] at HKB
  go_enter Try.func12, Try.ntmps12
  go_wp2_with fail
  obtain ⟨W0, hW0⟩ : ∃ W, ((w.alloc (.cells #[.pointer (some pa), .pointer (some pb)] 31)).alloc (.cells #[.int .i64 2, .int .i64 on, .int .i64 a, .int .i64 b, .int .i64 c] 33)) = W := ⟨_, rfl⟩
  rw [hW0] at HBN HKA HKB HD
  rw [hW0]
  obtain ⟨g, hg⟩ : ∃ g, w.heap.size = g := ⟨_, rfl⟩
  rw [hg] at HBN HKA HKB za zb
  rw [hg]
  have hS0 := HBN
  obtain ⟨k1, k2, k3, k4⟩ := HKA
  obtain ⟨l1, l2, l3, _⟩ := HKB
  clear HBN hW0 hg ha hb fa fb
  unfold Box at hS0
  go_region_held3 (fun w' => w'.cell? ⟨g, 0, none⟩ = some (.pointer (some pa)) ∧ w'.cell? ⟨g, 1, none⟩ = some (.pointer (some pb)) ∧ w'.cell? ⟨g + 1, 2, none⟩ = some (.int .i64 a) ∧ w'.cell? ⟨g + 1, 3, none⟩ = some (.int .i64 b) ∧ w'.cell? ⟨g + 1, 4, none⟩ = some (.int .i64 c))
    (first | exact kS2 | exact kS1 | exact hS0)
    (first
      | (go_at_call 17; refine (T.out.one _ (by exact k1) (by exact k2) (by exact k3)).mono ?_; rintro e w1 ⟨rfl, hu1⟩; have kS1 := Box.keep hS0 (Upd.from_drew hu1) za k4)
      | (go_at_call 21; refine (T.out.two _ (by exact upd_keep (Upd.from_drew hu1) l1 l3 hne) (by exact (Upd.otherF (Upd.from_drew hu1) l3 hne).trans l2)).mono ?_; rintro e w2 ⟨rfl, hu2⟩; have kS2 := Box.keep kS1 hu2 zb (Nat.lt_of_lt_of_le k4 hu1.size)))
  go_wp2_with fail
  go_ret
  exact ⟨by simp, HD.out _ _ hu1 hu2⟩
set_option maxHeartbeats 1000000 in
theorem does_neg (pa pb : Addr) (bad : Bool) (on a b c : Int) (w : World) (ha : w.cell? pa = some (.bool bad)) (hb : w.cell? pb = some (.bool bad)) (fa : w.frozen? pa = false) (fb : w.frozen? pb = false) (hne : pb.block ≠ pa.block) :
    Calls Try.prog 12 #[.agg #[.pointer (some pa), .pointer (some pb)], .agg #[.int .i64 3, .int .i64 on, .int .i64 a, .int .i64 b, .int .i64 c]] w fun e w' => e = .returned (.bool true) ∧ Both pa pb w w' := by
  have za := World.block_lt_of_cell? w _ ha
  have zb := World.block_lt_of_cell? w _ hb
  have T : Hid (Twin 22 23 pa pb bad [.int .i64 a] (toldV bad (allLen [a]) (lenB (-a)) (cut (-a))) (toldB bad (allLen [a]) (lenB (-a)))) :=
    ⟨fun w h1 h2 h3 => neg_any pa bad a w h1 h2 h3, fun w h1 h2 => negR_any pb bad a w h1 h2⟩
  obtain ⟨n, hn⟩ : ∃ n, toldV bad (allLen [a]) (lenB (-a)) (cut (-a)) = n := ⟨_, rfl⟩
  obtain ⟨f, hf⟩ : ∃ f, toldB bad (allLen [a]) (lenB (-a)) = f := ⟨_, rfl⟩
  rw [hn, hf] at T
  clear hn hf
  have HBN := box_new w pa pb 3 on a b c 31 33
  have HKA := two_keep w (.cells #[.pointer (some pa), .pointer (some pb)] 31) (.cells #[.int .i64 3, .int .i64 on, .int .i64 a, .int .i64 b, .int .i64 c] 33) za
  have HKB := two_keep w (.cells #[.pointer (some pa), .pointer (some pb)] 31) (.cells #[.int .i64 3, .int .i64 on, .int .i64 a, .int .i64 b, .int .i64 c] 33) zb
  have HD : Hid (∀ w1 w2 : World, Upd pa f ((w.alloc (.cells #[.pointer (some pa), .pointer (some pb)] 31)).alloc (.cells #[.int .i64 3, .int .i64 on, .int .i64 a, .int .i64 b, .int .i64 c] 33)).drew w1 → Upd pb f w1 w2 → Both pa pb w w2) := fun w1 w2 h1 h2 => both_of h1 h2
  rw [ha, fa] at HKA
  rw [hb, fb] at HKB
  go_enter Try.func12, Try.ntmps12
  go_wp2_with fail
  obtain ⟨W0, hW0⟩ : ∃ W, ((w.alloc (.cells #[.pointer (some pa), .pointer (some pb)] 31)).alloc (.cells #[.int .i64 3, .int .i64 on, .int .i64 a, .int .i64 b, .int .i64 c] 33)) = W := ⟨_, rfl⟩
  rw [hW0] at HBN HKA HKB HD
  rw [hW0]
  obtain ⟨g, hg⟩ : ∃ g, w.heap.size = g := ⟨_, rfl⟩
  rw [hg] at HBN HKA HKB za zb
  rw [hg]
  have hS0 := HBN
  obtain ⟨k1, k2, k3, k4⟩ := HKA
  obtain ⟨l1, l2, l3, _⟩ := HKB
  clear HBN hW0 hg ha hb fa fb
  unfold Box at hS0
  go_region_held3 (fun w' => w'.cell? ⟨g, 0, none⟩ = some (.pointer (some pa)) ∧ w'.cell? ⟨g, 1, none⟩ = some (.pointer (some pb)) ∧ w'.cell? ⟨g + 1, 2, none⟩ = some (.int .i64 a) ∧ w'.cell? ⟨g + 1, 3, none⟩ = some (.int .i64 b) ∧ w'.cell? ⟨g + 1, 4, none⟩ = some (.int .i64 c))
    (first | exact kS2 | exact kS1 | exact hS0)
    (first
      | (go_at_call 22; refine (T.out.one _ (by exact k1) (by exact k2) (by exact k3)).mono ?_; rintro e w1 ⟨rfl, hu1⟩; have kS1 := Box.keep hS0 (Upd.from_drew hu1) za k4)
      | (go_at_call 23; refine (T.out.two _ (by exact upd_keep (Upd.from_drew hu1) l1 l3 hne) (by exact (Upd.otherF (Upd.from_drew hu1) l3 hne).trans l2)).mono ?_; rintro e w2 ⟨rfl, hu2⟩; have kS2 := Box.keep kS1 hu2 zb (Nat.lt_of_lt_of_le k4 hu1.size)))
  go_wp2_with fail
  go_ret
  exact ⟨by simp, HD.out _ _ hu1 hu2⟩
set_option maxHeartbeats 1000000 in
theorem does_times (pa pb : Addr) (bad : Bool) (on a b c : Int) (b0 : -9223372036854775808 ≤ b) (b1 : b ≤ 9223372036854775807) (w : World) (ha : w.cell? pa = some (.bool bad)) (hb : w.cell? pb = some (.bool bad)) (fa : w.frozen? pa = false) (fb : w.frozen? pb = false) (hne : pb.block ≠ pa.block) :
    Calls Try.prog 12 #[.agg #[.pointer (some pa), .pointer (some pb)], .agg #[.int .i64 4, .int .i64 on, .int .i64 a, .int .i64 b, .int .i64 c]] w fun e w' => e = .returned (.bool true) ∧ Both pa pb w w' := by
  have za := World.block_lt_of_cell? w _ ha
  have zb := World.block_lt_of_cell? w _ hb
  have T : Hid (Twin 18 24 pa pb bad [.int .i64 a, .int .i64 b] (toldV bad (allLen [a]) (lenB (a * b)) (cut (a * b))) (toldB bad (allLen [a]) (lenB (a * b)))) :=
    ⟨fun w h1 h2 h3 => times_any pa bad a b b0 b1 w h1 h2 h3, fun w h1 h2 => timesR_any pb bad a b w h1 h2⟩
  obtain ⟨n, hn⟩ : ∃ n, toldV bad (allLen [a]) (lenB (a * b)) (cut (a * b)) = n := ⟨_, rfl⟩
  obtain ⟨f, hf⟩ : ∃ f, toldB bad (allLen [a]) (lenB (a * b)) = f := ⟨_, rfl⟩
  rw [hn, hf] at T
  clear hn hf b0 b1
  have HBN := box_new w pa pb 4 on a b c 31 33
  have HKA := two_keep w (.cells #[.pointer (some pa), .pointer (some pb)] 31) (.cells #[.int .i64 4, .int .i64 on, .int .i64 a, .int .i64 b, .int .i64 c] 33) za
  have HKB := two_keep w (.cells #[.pointer (some pa), .pointer (some pb)] 31) (.cells #[.int .i64 4, .int .i64 on, .int .i64 a, .int .i64 b, .int .i64 c] 33) zb
  have HD : Hid (∀ w1 w2 : World, Upd pa f ((w.alloc (.cells #[.pointer (some pa), .pointer (some pb)] 31)).alloc (.cells #[.int .i64 4, .int .i64 on, .int .i64 a, .int .i64 b, .int .i64 c] 33)).drew w1 → Upd pb f w1 w2 → Both pa pb w w2) := fun w1 w2 h1 h2 => both_of h1 h2
  rw [ha, fa] at HKA
  rw [hb, fb] at HKB
  go_enter Try.func12, Try.ntmps12
  go_wp2_with fail
  obtain ⟨W0, hW0⟩ : ∃ W, ((w.alloc (.cells #[.pointer (some pa), .pointer (some pb)] 31)).alloc (.cells #[.int .i64 4, .int .i64 on, .int .i64 a, .int .i64 b, .int .i64 c] 33)) = W := ⟨_, rfl⟩
  rw [hW0] at HBN HKA HKB HD
  rw [hW0]
  obtain ⟨g, hg⟩ : ∃ g, w.heap.size = g := ⟨_, rfl⟩
  rw [hg] at HBN HKA HKB za zb
  rw [hg]
  have hS0 := HBN
  obtain ⟨k1, k2, k3, k4⟩ := HKA
  obtain ⟨l1, l2, l3, _⟩ := HKB
  clear HBN hW0 hg ha hb fa fb
  unfold Box at hS0
  go_region_held3 (fun w' => w'.cell? ⟨g, 0, none⟩ = some (.pointer (some pa)) ∧ w'.cell? ⟨g, 1, none⟩ = some (.pointer (some pb)) ∧ w'.cell? ⟨g + 1, 2, none⟩ = some (.int .i64 a) ∧ w'.cell? ⟨g + 1, 3, none⟩ = some (.int .i64 b) ∧ w'.cell? ⟨g + 1, 4, none⟩ = some (.int .i64 c))
    (first | exact kS2 | exact kS1 | exact hS0)
    (first
      | (go_at_call 18; refine (T.out.one _ (by exact k1) (by exact k2) (by exact k3)).mono ?_; rintro e w1 ⟨rfl, hu1⟩; have kS1 := Box.keep hS0 (Upd.from_drew hu1) za k4)
      | (go_at_call 24; refine (T.out.two _ (by exact upd_keep (Upd.from_drew hu1) l1 l3 hne) (by exact (Upd.otherF (Upd.from_drew hu1) l3 hne).trans l2)).mono ?_; rintro e w2 ⟨rfl, hu2⟩; have kS2 := Box.keep kS1 hu2 zb (Nat.lt_of_lt_of_le k4 hu1.size)))
  go_wp2_with fail
  go_ret
  exact ⟨by simp, HD.out _ _ hu1 hu2⟩
set_option maxHeartbeats 1000000 in
theorem does_scale (pa pb : Addr) (bad : Bool) (on a b c : Int) (w : World) (ha : w.cell? pa = some (.bool bad)) (hb : w.cell? pb = some (.bool bad)) (fa : w.frozen? pa = false) (fb : w.frozen? pb = false) (hne : pb.block ≠ pa.block) :
    Calls Try.prog 12 #[.agg #[.pointer (some pa), .pointer (some pb)], .agg #[.int .i64 5, .int .i64 on, .int .i64 a, .int .i64 b, .int .i64 c]] w fun e w' => e = .returned (.bool true) ∧ Both pa pb w w' := by
  have za := World.block_lt_of_cell? w _ ha
  have zb := World.block_lt_of_cell? w _ hb
  have T : Hid (Twin 16 25 pa pb bad [.int .i64 a, .int .i64 b, .int .i64 c] (toldV bad (allLen [a]) (ratB a b c) (ratN a b c)) (toldB bad (allLen [a]) (ratB a b c))) :=
    ⟨fun w h1 h2 h3 => scale_any pa bad a b c w h1 h2 h3, fun w h1 h2 => scaleR_any pb bad a b c w h1 h2⟩
  obtain ⟨n, hn⟩ : ∃ n, toldV bad (allLen [a]) (ratB a b c) (ratN a b c) = n := ⟨_, rfl⟩
  obtain ⟨f, hf⟩ : ∃ f, toldB bad (allLen [a]) (ratB a b c) = f := ⟨_, rfl⟩
  rw [hn, hf] at T
  clear hn hf
  have HBN := box_new w pa pb 5 on a b c 31 33
  have HKA := two_keep w (.cells #[.pointer (some pa), .pointer (some pb)] 31) (.cells #[.int .i64 5, .int .i64 on, .int .i64 a, .int .i64 b, .int .i64 c] 33) za
  have HKB := two_keep w (.cells #[.pointer (some pa), .pointer (some pb)] 31) (.cells #[.int .i64 5, .int .i64 on, .int .i64 a, .int .i64 b, .int .i64 c] 33) zb
  have HD : Hid (∀ w1 w2 : World, Upd pa f ((w.alloc (.cells #[.pointer (some pa), .pointer (some pb)] 31)).alloc (.cells #[.int .i64 5, .int .i64 on, .int .i64 a, .int .i64 b, .int .i64 c] 33)).drew w1 → Upd pb f w1 w2 → Both pa pb w w2) := fun w1 w2 h1 h2 => both_of h1 h2
  rw [ha, fa] at HKA
  rw [hb, fb] at HKB
  go_enter Try.func12, Try.ntmps12
  go_wp2_with fail
  obtain ⟨W0, hW0⟩ : ∃ W, ((w.alloc (.cells #[.pointer (some pa), .pointer (some pb)] 31)).alloc (.cells #[.int .i64 5, .int .i64 on, .int .i64 a, .int .i64 b, .int .i64 c] 33)) = W := ⟨_, rfl⟩
  rw [hW0] at HBN HKA HKB HD
  rw [hW0]
  obtain ⟨g, hg⟩ : ∃ g, w.heap.size = g := ⟨_, rfl⟩
  rw [hg] at HBN HKA HKB za zb
  rw [hg]
  have hS0 := HBN
  obtain ⟨k1, k2, k3, k4⟩ := HKA
  obtain ⟨l1, l2, l3, _⟩ := HKB
  clear HBN hW0 hg ha hb fa fb
  unfold Box at hS0
  go_region_held3 (fun w' => w'.cell? ⟨g, 0, none⟩ = some (.pointer (some pa)) ∧ w'.cell? ⟨g, 1, none⟩ = some (.pointer (some pb)) ∧ w'.cell? ⟨g + 1, 2, none⟩ = some (.int .i64 a) ∧ w'.cell? ⟨g + 1, 3, none⟩ = some (.int .i64 b) ∧ w'.cell? ⟨g + 1, 4, none⟩ = some (.int .i64 c))
    (first | exact kS2 | exact kS1 | exact hS0)
    (first
      | (go_at_call 16; refine (T.out.one _ (by exact k1) (by exact k2) (by exact k3)).mono ?_; rintro e w1 ⟨rfl, hu1⟩; have kS1 := Box.keep hS0 (Upd.from_drew hu1) za k4)
      | (go_at_call 25; refine (T.out.two _ (by exact upd_keep (Upd.from_drew hu1) l1 l3 hne) (by exact (Upd.otherF (Upd.from_drew hu1) l3 hne).trans l2)).mono ?_; rintro e w2 ⟨rfl, hu2⟩; have kS2 := Box.keep kS1 hu2 zb (Nat.lt_of_lt_of_le k4 hu1.size)))
  go_wp2_with fail
  go_ret
  exact ⟨by simp, HD.out _ _ hu1 hu2⟩

set_option maxHeartbeats 1000000 in
theorem does_none (pa pb : Addr) (bad : Bool) (k on a b c : Int) (h : k ≠ 1 ∧ k ≠ 2 ∧ k ≠ 3 ∧ k ≠ 4 ∧ k ≠ 5) (w : World) (ha : w.cell? pa = some (.bool bad)) (hb : w.cell? pb = some (.bool bad)) (fa : w.frozen? pa = false) (fb : w.frozen? pb = false) :
    Calls Try.prog 12 #[.agg #[.pointer (some pa), .pointer (some pb)], .agg #[.int .i64 k, .int .i64 on, .int .i64 a, .int .i64 b, .int .i64 c]] w fun e w' => e = .returned (.bool true) ∧ Both pa pb w w' := by
  have za := World.block_lt_of_cell? w _ ha
  have zb := World.block_lt_of_cell? w _ hb
  have HKB := two_keep w (.cells #[.pointer (some pa), .pointer (some pb)] 31) (.cells #[.int .i64 k, .int .i64 on, .int .i64 a, .int .i64 b, .int .i64 c] 33) zb
  have HU := ((Upd.refl ha fa).alloc za (.cells #[.pointer (some pa), .pointer (some pb)] 31)).alloc za (.cells #[.int .i64 k, .int .i64 on, .int .i64 a, .int .i64 b, .int .i64 c] 33)
  have HB : Hid (Both pa pb w ((w.alloc (.cells #[.pointer (some pa), .pointer (some pb)] 31)).alloc (.cells #[.int .i64 k, .int .i64 on, .int .i64 a, .int .i64 b, .int .i64 c] 33))) :=
    ⟨bad, _, HU, Upd.refl (HKB.1.trans hb) (HKB.2.1.trans fb)⟩
  have g1 : (k == 1) = false := by simpa using h.1
  have g2 : (k == 2) = false := by simpa using h.2.1
  have g3 : (k == 3) = false := by simpa using h.2.2.1
  have g4 : (k == 4) = false := by simpa using h.2.2.2.1
  have g5 : (k == 5) = false := by simpa using h.2.2.2.2
  clear HU HKB ha hb fa fb za zb h
  go_enter Try.func12, Try.ntmps12
  go_wp2_with fail
  go_ret
  exact ⟨rfl, HB.out⟩

theorem does_any (pa pb : Addr) (bad : Bool) (k on a b c : Int) (b0 : -9223372036854775808 ≤ b) (b1 : b ≤ 9223372036854775807) (w : World) (ha : w.cell? pa = some (.bool bad)) (hb : w.cell? pb = some (.bool bad)) (fa : w.frozen? pa = false) (fb : w.frozen? pb = false) (hne : pb.block ≠ pa.block) :
    Calls Try.prog 12 #[.agg #[.pointer (some pa), .pointer (some pb)], .agg #[.int .i64 k, .int .i64 on, .int .i64 a, .int .i64 b, .int .i64 c]] w fun e w' => e = .returned (.bool true) ∧ Both pa pb w w' := by
  by_cases h1 : k = 1
  · subst h1; exact does_add pa pb bad on a b c w ha hb fa fb hne
  by_cases h2 : k = 2
  · subst h2; exact does_sub pa pb bad on a b c w ha hb fa fb hne
  by_cases h3 : k = 3
  · subst h3; exact does_neg pa pb bad on a b c w ha hb fa fb hne
  by_cases h4 : k = 4
  · subst h4; exact does_times pa pb bad on a b c b0 b1 w ha hb fa fb hne
  by_cases h5 : k = 5
  · subst h5; exact does_scale pa pb bad on a b c w ha hb fa fb hne
  exact does_none pa pb bad k on a b c ⟨h1, h2, h3, h4, h5⟩ w ha hb fa fb
end Go.Proofs.Ytolccoghlclidaa
