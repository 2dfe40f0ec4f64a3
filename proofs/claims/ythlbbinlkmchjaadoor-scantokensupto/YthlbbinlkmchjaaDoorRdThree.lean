/- The reader fine or wrong: an outcome's; want; Put of any int. -/
import Derived.Test.YthlbbinlkmchjaaDoorRdTwo
import Derived.Test.YthlbbinlkmchjaaDoorPutC
import Derived.Test.YthlbbinlkmchjaaDoorText
import Derived.Test.YthlbbinlkmchjaaDoorMark
namespace Go.Proofs.YthlbbinlkmchjaaDoor
open Go.RowKit

theorem put_any (r : Int) (w : World) : Calls Tryd.prog 68 #[.int .i64 r] w fun e w' => (∃ t : ByteArray, e = .returned (.string t) ∧ t.size ≤ 4) ∧ Only [] w w' := by
  by_cases h : isR r = true
  · have h1 : 0 ≤ r ∧ isRune r.toNat = true := by unfold isR at h; simpa using h
    obtain ⟨n, hn⟩ : ∃ n : Nat, r = n := ⟨r.toNat, by omega⟩
    subst hn
    rw [Int.toNat_natCast] at h1
    refine (put_c h1.2 w).mono ?_
    rintro e w' ⟨rfl, ho⟩
    refine ⟨⟨_, rfl, ?_⟩, ho⟩
    rw [← bl_length, bl_strN _ (enc_all_lt h1.2)]
    exact (enc_len n).2
  · have hz : widthI r = 0 := (widthI_isR r).2 (by simpa using h)
    have HW := hid (fun W => refWidth_any r W)
    rw [hz] at HW
    clear h hz
    go_enter Tryd.func68, Tryd.ntmps68
    go_wp2_with fail
    refine (HW.out _).mono ?_
    rintro e w1 ⟨rfl, rfl⟩
    go_wp2_with fail
    go_ret
    exact ⟨⟨_, rfl, by decide⟩, Only.refl _ _⟩
/-- what is left of an outcome -/
def bindO {α β : Type} (s : ByteArray) (o : O α) (P : Pz β) : O β := match o with
  | (m, .ok x) => fo s m x.2 P
  | (m, .error F) => (m, .error F)
/-- the reader behind an outcome -/
def SU {α : Type} (w0 w : World) (xb mb : Nat) (s : ByteArray) (xs : List (Tk × Tm)) (tv : Value) (o : O α) : Prop := match o with
  | (m, .ok x) => Sx w0 w xb mb s x.2 m xs tv
  | (m, .error F) => RX w xb mb s m F ∧ Only [mb] w0 w
theorem SU.still {α : Type} {w0 w w' : World} {xb mb : Nat} {s : ByteArray} {xs : List (Tk × Tm)} {tv : Value} {o : O α} (h : SU w0 w xb mb s xs tv o) (k : Only [] w w') : SU w0 w' xb mb s xs tv o := by
  rcases o with ⟨m, F | ⟨x, p⟩⟩
  · exact ⟨h.1.still k, h.2.trans (k.mono (by simp))⟩
  · exact Sx.still (show Sx w0 w xb mb s p m xs tv from h) k
theorem want_u {α : Type} {w0 w : World} {xb mb : Nat} {s : ByteArray} {xs : List (Tk × Tm)} {tv : Value} {o : O α} (h : SU w0 w xb mb s xs tv o) (c : Nat) (hc : c < 256) :
    Calls Tryd.prog 56 #[.pointer (some ⟨xb, 0, none⟩), .int .u8 c] w fun e w' => e = .returned (.tuple #[]) ∧ SU w0 w' xb mb s xs tv (bindO s o (word 70 [c])) ∧ Only [xb, mb] w w' := by
  rcases o with ⟨m, F | ⟨x, p⟩⟩
  · obtain ⟨⟨pp, vv, hx⟩, ho⟩ := h
    refine (want_no hx c hc).mono ?_
    rintro e w' ⟨rfl, h1⟩
    exact ⟨rfl, ⟨⟨pp, vv, hx.still h1⟩, ho.trans (h1.mono (by simp))⟩, h1.mono (by simp)⟩
  · have hs : Sx w0 w xb mb s p m xs tv := h
    refine (want_c hs.ru c hc).mono ?_
    rintro e w' ⟨rfl, hp, ho⟩
    refine ⟨rfl, ?_, ho⟩
    show SU w0 w' xb mb s xs tv (fo s m p (word 70 [c]))
    rcases hr : fo s m p (word 70 [c]) with ⟨m1, F | ⟨y, q⟩⟩
    · rw [hr] at hp
      exact ⟨hp, hs.off ho⟩
    · rw [hr] at hp
      exact hs.on hp ho (fo_ge hs.ru.why hr)
/-- a token laid down, or not -/
theorem put_u {α : Type} {w0 w : World} {xb mb : Nat} {s : ByteArray} {xs : List (Tk × Tm)} {tv : Value} {o : O α} (h : SU w0 w xb mb s xs tv o) (kd at_ : Nat) (nm vl : ByteArray) (em : Bool) (l : List Nat)
    (hv : ∀ m x p, o = (m, .ok (x, p)) → xs.length + 1 ≤ p ∧ bl nm = l) :
    Calls Tryd.prog 57 #[.pointer (some ⟨xb, 0, none⟩), .agg #[.int .i64 kd, .int .i64 at_, .int .i64 0, .string nm, .string vl, .slice none 0 0, .bool em]] w fun e w' => e = .returned (.tuple #[]) ∧
      PX w0 w' xb mb s xs (finT (mapO (fun _ => (⟨kd, at_, 0, l, bl vl, em, []⟩ : Tk)) o)) := by
  rcases o with ⟨m, F | ⟨x, p⟩⟩
  · obtain ⟨⟨pp, vv, hx⟩, ho⟩ := h
    refine (put_no hx kd at_ 0 nm vl em (.slice none 0 0) ⟨_, _, _, rfl⟩).mono ?_
    rintro e w' ⟨rfl, h1⟩
    exact ⟨rfl, ⟨pp, vv, hx.still h1⟩, ho.trans (h1.mono (by simp))⟩
  · have hs : Sx w0 w xb mb s p m xs tv := h
    obtain ⟨h1, h2⟩ := hv m x p rfl
    refine (put_s hs ⟨kd, at_, 0, l, bl vl, em, []⟩ ⟨nm, vl, .slice none 0 0⟩ h2 rfl (World.ownsRow_nil _ _ _ _) (fun b hb => by cases hb) h1 0).mono ?_
    rintro e w' ⟨rfl, h3, h4⟩
    refine ⟨rfl, ?_⟩
    rcases hh : m.holdOk 1 with _ | _
    · rw [show finT (mapO (fun _ => (⟨kd, at_, 0, l, bl vl, em, []⟩ : Tk)) (m, .ok (x, p))) = (m.hold 1, .error (21, 0)) from finT_no hh]
      exact h4 hh
    · rw [show finT (mapO (fun _ => (⟨kd, at_, 0, l, bl vl, em, []⟩ : Tk)) (m, .ok (x, p))) = (m.hold 1, .ok (⟨kd, at_, p, l, bl vl, em, []⟩, p)) from finT_yes hh]
      obtain ⟨tv', hx⟩ := h3 hh
      exact ⟨_, tv', hx⟩
end Go.Proofs.YthlbbinlkmchjaaDoor
namespace Go.Proofs.YthlbbinlkmchjaaDoor
open Go.RowKit

theorem bind_word {γ : Type} {s : ByteArray} {m : M} (hok : m.Ok) (hw : m.why = 0) {p k c : Nat} {cs : List Nat} {G : Pz γ} :
    fo s m p (andThen (word k (c :: cs)) fun _ _ => G) = bindO s (fo s m p (word k [c])) (andThen (word k cs) fun _ _ => G) := by
  have h1 : fo s m p (andThen (word k (c :: cs)) fun _ _ => G) = fo s m p (andThen (byteP (· == c) k) fun _ _ => andThen (word k cs) fun _ _ => G) := fo_congr (then_assoc _)
  have h2 : fo s m p (word k [c]) = fo s m p (andThen (byteP (· == c) k) fun _ _ => (done () : Pz Unit)) := rfl
  rw [h1, h2]
  rcases hb : fo s m p (byteP (· == c) k) with ⟨m1, F | ⟨u, q⟩⟩
  · rw [fo_then_bad hw (fair_byte _ _) hb, fo_then_bad hw (fair_byte _ _) hb]
    rfl
  · rw [fo_then_ok hw (fair_byte _ _) hb, fo_then_ok hw (fair_byte _ _) hb, fo_done (fo_mok hok hb) (fo_why hw hb)]
    rfl
/-- a value and the quote behind it -/
def valQ (r : Nat) : Pz (List Nat) := andThen (valK r) fun v _ => andThen (word 70 [34]) fun _ _ => done v
/-- an attribute's outcome, from its name's -/
def attO (s : ByteArray) (o1 : O (List Nat)) : O (List Nat) := bindO s (bindO s (bindO s o1 (word 70 [61])) (word 70 [34])) (valQ 256)
theorem att_bad {s : ByteArray} {m : M} (hw : m.why = 0) {p : Nat} {m1 : M} {F : Int × Int} (h : fo s m p name = (m1, .error F)) : fo s m p (attP p) = (m1, .error F) := fo_then_bad hw fair_name h
theorem bind_bind {α β γ : Type} {s : ByteArray} {o : O α} {P : Pz β} {Q : Pz γ} (h : ∀ m x p, o = (m, .ok (x, p)) → fo s m p (andThen P fun _ _ => Q) = bindO s (fo s m p P) Q) :
    bindO s o (andThen P fun _ _ => Q) = bindO s (bindO s o P) Q := by
  rcases o with ⟨m, F | ⟨x, p⟩⟩
  · rfl
  · exact h m x p rfl
theorem att_ok {s : ByteArray} {m : M} (hok : m.Ok) (hw : m.why = 0) {p : Nat} {m1 : M} {nm : List Nat} {q1 : Nat} (h : fo s m p name = (m1, .ok (nm, q1))) :
    fo s m p (attP p) = mapO (fun v => (⟨2, p, 0, nm, v.flatMap enc, false, []⟩ : Tk)) (attO s (m1, .ok (nm, q1))) := by
  have hok1 := fo_mok hok h
  have hw1 := fo_why hw h
  rw [show fo s m p (attP p) = _ from fo_then_ok hw fair_name h]
  unfold attO
  show fo s m1 q1 (andThen (word 70 [61, 34]) fun _ _ => andThen (valK 256) fun v _ => andThen (word 70 [34]) fun _ _ => done (⟨2, p, 0, nm, v.flatMap enc, false, []⟩ : Tk)) = mapO (fun v => (⟨2, p, 0, nm, v.flatMap enc, false, []⟩ : Tk)) (bindO s (bindO s (fo s m1 q1 (word 70 [61])) (word 70 [34])) (valQ 256))
  rw [bind_word hok1 hw1]
  rcases h2 : fo s m1 q1 (word 70 [61]) with ⟨m2, F | ⟨u, q2⟩⟩
  · rfl
  have hok2 := fo_mok hok1 h2
  have hw2 := fo_why hw1 h2
  show fo s m2 q2 (andThen (word 70 [34]) fun _ _ => andThen (valK 256) fun v _ => andThen (word 70 [34]) fun _ _ => done (⟨2, p, 0, nm, v.flatMap enc, false, []⟩ : Tk)) = mapO (fun v => (⟨2, p, 0, nm, v.flatMap enc, false, []⟩ : Tk)) (bindO s (fo s m2 q2 (word 70 [34])) (valQ 256))
  rw [bind_word hok2 hw2]
  rcases h3 : fo s m2 q2 (word 70 [34]) with ⟨m3, F | ⟨u, q3⟩⟩
  · rfl
  have hok3 := fo_mok hok2 h3
  have hw3 := fo_why hw2 h3
  show fo s m3 q3 (andThen (word 70 []) fun _ _ => andThen (valK 256) fun v _ => andThen (word 70 [34]) fun _ _ => done (⟨2, p, 0, nm, v.flatMap enc, false, []⟩ : Tk)) = mapO (fun v => (⟨2, p, 0, nm, v.flatMap enc, false, []⟩ : Tk)) (fo s m3 q3 (valQ 256))
  rw [fo_word_nil]
  unfold valQ
  rcases h4 : fo s m3 q3 (valK 256) with ⟨m4, F | ⟨v, q4⟩⟩
  · rw [fo_then_bad hw3 (fair_val _) h4, fo_then_bad hw3 (fair_val _) h4]
    rfl
  · have hok4 := fo_mok hok3 h4
    have hw4 := fo_why hw3 h4
    rw [fo_then_ok hw3 (fair_val _) h4, fo_then_ok hw3 (fair_val _) h4]
    rw [show fo s m4 q4 (andThen (word 70 [34]) fun _ _ => done (⟨2, p, 0, nm, v.flatMap enc, false, []⟩ : Tk)) = mapO (fun _ => (⟨2, p, 0, nm, v.flatMap enc, false, []⟩ : Tk)) (fo s m4 q4 (word 70 [34])) from fo_map hok4 hw4 (fair_word _ _) _, show fo s m4 q4 (andThen (word 70 [34]) fun _ _ => done v) = mapO (fun _ => v) (fo s m4 q4 (word 70 [34])) from fo_map hok4 hw4 (fair_word _ _) _, mapO_map]
/-- at the value's end: a quote, or the text's end -/
theorem valQ_stop {s : ByteArray} {m : M} (hok : m.Ok) (hw : m.why = 0) {q r : Nat} (h : (rest s q).head? = some 34 ∨ (rest s q).head? = none) : fo s m q (valQ r) = mapO (fun _ => []) (fo s m q (word 70 [34])) := by
  rcases h with h | h
  · have h1 : fo s m q (valQ r) = fo s m q (andThen (done []) fun v _ => andThen (word 70 [34]) fun _ _ => done v) := by
      refine fo_congr ?_
      unfold valQ
      show thenR (valK r (rest s q)) _ = thenR (done [] (rest s q)) _
      rw [val_quote r h]
    rw [h1, fo_then_ok hw (fair_done _) (fo_done hok hw q [])]
    exact fo_map hok hw (fair_word _ _) (fun _ => ([] : List Nat))
  · have h1 : fo s m q (valQ r) = fo s m q (fails 70) := by
      refine fo_congr ?_
      unfold valQ
      show thenR (valK r (rest s q)) _ = _
      rw [val_end r h]
      rfl
    have h2 : fo s m q (word 70 [34]) = fo s m q (fails 70) := by
      refine fo_congr ?_
      have : rest s q = [] := List.head?_eq_none_iff.1 h
      rw [this]
      rfl
    rw [h1, h2]
    rfl
theorem valQ_long {s : ByteArray} {m : M} {q b : Nat} (h : (rest s q).head? = some b) (hb : b ≠ 34) : fo s m q (valQ 0) = (erM s m q, .error (erF s m q 72)) := by
  rw [← fo_fails (α := List Nat)]
  refine fo_congr ?_
  unfold valQ
  show thenR (valK 0 (rest s q)) _ = _
  rw [val_long h hb]
  rfl
theorem valQ_tag {s : ByteArray} {m : M} {q r : Nat} (h : (rest s q).head? = some 60) : fo s m q (valQ (r + 1)) = (erM s m q, .error (erF s m q 70)) := by
  rw [← fo_fails (α := List Nat)]
  refine fo_congr ?_
  unfold valQ
  show thenR (valK (r + 1) (rest s q)) _ = _
  rw [val_tag r h]
  rfl
theorem valQ_chr {s : ByteArray} {m : M} {q r b : Nat} (h : (rest s q).head? = some b) (hb : b ≠ 34) (hc : b ≠ 60) :
    fo s m q (valQ (r + 1)) = fo s m q (andThen chrP fun x _ => andThen (valK r) fun xs _ => andThen (word 70 [34]) fun _ _ => done (x :: xs)) := by
  refine fo_congr ?_
  have h1 := val_chr r h hb hc
  unfold valQ
  show thenR (valK (r + 1) (rest s q)) _ = thenR (chrP (rest s q)) _
  rw [h1]
  show thenR (thenR (chrP (rest s q)) _) _ = _
  rcases chrP (rest s q) with e | ⟨x, n⟩
  · rfl
  · show thenR (R.up n (thenR (valK r ((rest s q).drop n)) _)) _ = R.up n (thenR (valK r ((rest s q).drop n)) _)
    rcases valK r ((rest s q).drop n) with e | ⟨xs, k⟩
    · rfl
    · show R.up (n + k) ((andThen (word 70 [34]) fun _ _ => done (x :: xs)) ((rest s q).drop (n + k))) = R.up n (R.up k ((andThen (word 70 [34]) fun _ _ => done (x :: xs)) (((rest s q).drop n).drop k)))
      rw [R.up_up, List.drop_drop]
theorem valQ_go {s : ByteArray} {m : M} (hok : m.Ok) (hw : m.why = 0) {q r b : Nat} (h : (rest s q).head? = some b) (hb : b ≠ 34) (hc : b ≠ 60) {m1 : M} {x q1 : Nat} (hch : fo s m q chrP = (m1, .ok (x, q1))) :
    fo s m q (valQ (r + 1)) = mapO (fun xs => x :: xs) (fo s m1 q1 (valQ r)) := by
  have hok1 := fo_mok hok hch
  have hw1 := fo_why hw hch
  rw [valQ_chr h hb hc, fo_then_ok hw fair_chr hch]
  unfold valQ
  rcases h4 : fo s m1 q1 (valK r) with ⟨m4, F | ⟨v, q4⟩⟩
  · rw [fo_then_bad hw1 (fair_val _) h4, fo_then_bad hw1 (fair_val _) h4]
    rfl
  · have hok4 := fo_mok hok1 h4
    have hw4 := fo_why hw1 h4
    rw [fo_then_ok hw1 (fair_val _) h4, fo_then_ok hw1 (fair_val _) h4]
    rw [show fo s m4 q4 (andThen (word 70 [34]) fun _ _ => done (x :: v)) = mapO (fun _ => x :: v) (fo s m4 q4 (word 70 [34])) from fo_map hok4 hw4 (fair_word _ _) _, show fo s m4 q4 (andThen (word 70 [34]) fun _ _ => done v) = mapO (fun _ => v) (fo s m4 q4 (word 70 [34])) from fo_map hok4 hw4 (fair_word _ _) _, mapO_map]
theorem valQ_bad {s : ByteArray} {m : M} (hw : m.why = 0) {q r b : Nat} (h : (rest s q).head? = some b) (hb : b ≠ 34) (hc : b ≠ 60) {m1 : M} {F : Int × Int} (hch : fo s m q chrP = (m1, .error F)) :
    fo s m q (valQ (r + 1)) = (m1, .error F) := by
  rw [valQ_chr h hb hc, fo_then_bad hw fair_chr hch]
end Go.Proofs.YthlbbinlkmchjaaDoor
namespace Go.Proofs.YthlbbinlkmchjaaDoor
open Go.RowKit

theorem name_u {w0 w : World} {xb mb : Nat} {s : ByteArray} {p : Nat} {m : M} {xs : List (Tk × Tm)} {tv : Value} (h : Sx w0 w xb mb s p m xs tv) :
    Calls Tryd.prog 55 #[.pointer (some ⟨xb, 0, none⟩)] w fun e w' => ∃ t : ByteArray, e = .returned (.string t) ∧ (∀ m1 nm q1, fo s m p name = (m1, .ok (nm, q1)) → bl t = nm) ∧ SU w0 w' xb mb s xs tv (fo s m p name) ∧ Only [xb, mb] w w' := by
  refine (nameR_c h.ru).mono ?_
  rintro e w' ⟨hp, ho⟩
  rcases hr : fo s m p name with ⟨m1, F | ⟨nm, q1⟩⟩
  · rw [hr] at hp
    obtain ⟨rfl, hx⟩ := hp
    exact ⟨_, rfl, fun _ _ _ h => (by cases h), ⟨hx, h.off ho⟩, ho⟩
  · rw [hr] at hp
    obtain ⟨⟨t, rfl, ht⟩, hx⟩ := hp
    refine ⟨t, rfl, fun _ _ _ h => ?_, h.on hx ho (fo_ge h.ru.why hr), ho⟩
    cases h
    exact ht
theorem SU.apt {α : Type} {L : List Nat} {w0 w w' : World} {xb mb : Nat} {s : ByteArray} {xs : List (Tk × Tm)} {tv : Value} {o : O α} (h : SU w0 w xb mb s xs tv o) (ho : Only L w w') (h1 : xb ∉ L) (h2 : mb ∉ L) (h3 : ∀ b, tv.ownBlock = some b → b ∉ L) (h4 : ∀ b ∈ cbs xs, b ∉ L) (h5 : ∀ b ∈ L, w0.heap.size ≤ b) : SU w0 w' xb mb s xs tv o := by
  rcases o with ⟨m, F | ⟨x, p⟩⟩
  · exact ⟨h.1.only ho h1 h2, h.2.fresh ho (fun i hi hlt => by have := h5 i hi; omega)⟩
  · exact Sx.apt (show Sx w0 w xb mb s p m xs tv from h) ho h1 h2 h3 h4 h5
theorem field50_0 (a b c : Int) (w : World) : (Instr.field 50 (.agg #[.int .i64 a, .int .i64 b, .int .i64 c]) 0).run Tryd.prog w = .ok (.int .i64 a) w := by kernel_rfl
/-- the reader in the midst of a value -/
def AtRel (w0 w : World) (xb mb : Nat) (s : ByteArray) (p : Nat) (t : ByteArray) (xs : List (Tk × Tm)) (tv : Value) (o4 : O (List Nat)) (vb vi : Value) (wr : World) : Prop :=
  ∃ (bs : List Nat) (k : Nat), RB wr w.heap.size vb bs ∧ (∀ b ∈ bs, b < 256) ∧ bs.length ≤ 4 * k ∧ vi = .int .i64 k ∧ k ≤ 257 ∧ Blk wr w.heap.size [.int .i64 2, .int .i64 p, .int .i64 0, .string t, .string ⟨#[]⟩, .slice none 0 0, .bool false] 48 ∧
    ((∃ ys q m', k = ys.length ∧ k ≤ 256 ∧ bs = ys.flatMap enc ∧ Sx w0 wr xb mb s q m' xs tv ∧ mapO (fun zs => ys ++ zs) (fo s m' q (valQ (256 - k))) = o4) ∨
     (∃ m1 F, o4 = (m1, .error F) ∧ RX wr xb mb s m1 F ∧ Only [mb] w0 wr))

set_option maxRecDepth 100000 in
set_option maxHeartbeats 16000000 in
theorem attrx_c {w0 w : World} {xb mb : Nat} {s : ByteArray} {p : Nat} {m : M} {xs : List (Tk × Tm)} {tv : Value} (h : Sx w0 w xb mb s p m xs tv) :
    Calls Tryd.prog 79 #[.pointer (some ⟨xb, 0, none⟩)] w fun e w' => e = .returned (.tuple #[]) ∧ PX w0 w' xb mb s xs (finT (fo s m p (attP p))) := by
  have HS := hid h
  have hok := h.ru.rs.ok
  have hw := h.ru.why
  have HOKW := hid (And.intro hok hw)
  have hlt := h.ru.rs.c.lt
  have hltm := h.ru.rs.mt.lt
  have c2 : w.cell? ⟨xb, 2, none⟩ = some (.int .i64 p) := h.ru.rs.c.cell 2
  have hcl : ∀ b ∈ cbs xs, b < w.heap.size := fun b hb => by
    obtain ⟨x, hx, hxb⟩ := mem_cbs.1 hb
    exact (row_ge (h.tl.rel x hx).ch b hxb).2
  have HCL := hid hcl
  have hfr := hid h.fr.size
  have HTV := hid (fun b hb => (row_ge h.tl.row b hb).2)
  obtain ⟨i5, hi5, z50, z51, z52⟩ := info_parts info5
  have hfld := field50_0
  have HAPT : Hid (∀ {α : Type} {W : World} {o : O α} (c : Nat) (u : Value), SU w0 W xb mb s xs tv o → w.heap.size < W.heap.size → SU w0 (W.setCell ⟨w.heap.size, c, none⟩ u) xb mb s xs tv o) := hid (by
    intro c u hs hlw
    refine hs.apt (L := [w.heap.size]) ((Only.refl [w.heap.size] _).set (p := ⟨w.heap.size, c, none⟩) (.inl (by simp)) u) (by simp; omega) (by simp; omega) (fun b hb hm => ?_) (fun b hb hm => ?_) (fun b hm => ?_)
    · have h1 := HTV.out b hb
      simp at hm; omega
    · have h1 := HCL.out b hb
      simp at hm; omega
    · simp at hm
      subst hm
      exact hfr.out)
  clear hok hw hcl h
  go_enter Tryd.func79, Tryd.ntmps79
  go_wp2_with fail
  obtain ⟨W0, hW0⟩ : ∃ W0, w.alloc (.cells #[.int .i64 2, .int .i64 p, .int .i64 0, .string ⟨#[]⟩, .string ⟨#[]⟩, .slice none 0 0, .bool false] 48) = W0 := ⟨_, rfl⟩
  have HT0 := hid (show Blk W0 w.heap.size [.int .i64 2, .int .i64 p, .int .i64 0, .string ⟨#[]⟩, .string ⟨#[]⟩, .slice none 0 0, .bool false] 48 by rw [← hW0]; exact Blk.new w #[.int .i64 2, .int .i64 p, .int .i64 0, .string ⟨#[]⟩, .string ⟨#[]⟩, .slice none 0 0, .bool false] 48 rfl)
  have HN := hid (name_u (show Sx w0 W0 xb mb s p m xs tv by rw [← hW0]; exact HS.out.still ((Only.refl [] w).alloc _)))
  rw [hW0]
  clear hW0 c2
  refine HN.out.mono ?_
  rintro e w1 ⟨t, rfl, ht, hsu, hol⟩
  have HTN := hid ht
  have HSU1 := hid hsu
  have HT1 := hid (hol.blk HT0.out (by simp; omega))
  have b3 := HT1.out.cell 3
  have f3 := HT1.out.froz 3
  simp only [List.getElem?_cons_zero, List.getElem?_cons_succ] at b3
  clear ht hsu hol HN
  go_wp2_with fail
  obtain ⟨W2, hW2⟩ : ∃ W2, w1.setCell ⟨w.heap.size, 3, none⟩ (.string t) = W2 := ⟨_, rfl⟩
  have HSU2 := hid (show SU w0 W2 xb mb s xs tv (fo s m p name) by rw [← hW2]; exact HAPT.out 3 _ HSU1.out HT1.out.lt)
  have HT2 := hid (show Blk W2 w.heap.size [.int .i64 2, .int .i64 p, .int .i64 0, .string t, .string ⟨#[]⟩, .slice none 0 0, .bool false] 48 by rw [← hW2]; exact HT1.out.set 3 _)
  rw [hW2]
  clear hW2 b3 f3
  obtain ⟨o1, ho1⟩ : ∃ o1 : O (List Nat), fo s m p name = o1 := ⟨_, rfl⟩
  rw [ho1] at HSU2 HTN
  have HO1 := hid ho1
  clear ho1 HSU1 HT1
  refine (want_u HSU2.out 61 (by decide)).mono ?_
  rintro e w3 ⟨rfl, hsu, hol⟩
  have HSU3 := hid hsu
  have HT3 := hid (hol.blk HT2.out (by simp; omega))
  clear hsu hol
  go_wp2_with fail
  refine (want_u HSU3.out 34 (by decide)).mono ?_
  rintro e w4 ⟨rfl, hsu, hol⟩
  have HSU4 := hid hsu
  have HT4 := hid (hol.blk HT3.out (by simp; omega))
  clear hsu hol
  obtain ⟨o3, ho3⟩ : ∃ o3 : O Unit, bindO s (bindO s o1 (word 70 [61])) (word 70 [34]) = o3 := ⟨_, rfl⟩
  obtain ⟨o4, ho4⟩ : ∃ o4 : O (List Nat), bindO s o3 (valQ 256) = o4 := ⟨_, rfl⟩
  rw [ho3] at HSU4
  have HATT : Hid (∀ (o5 : O Unit) (bs ys : List Nat), o4 = mapO (fun _ => ys) o5 → (∀ m1 x q, o5 = (m1, .ok (x, q)) → bs = ys.flatMap enc) → fo s m p (attP p) = mapO (fun _ => (⟨2, p, 0, bl t, bs, false, []⟩ : Tk)) o5) := hid (by
    intro o5 bs ys h1 h2
    rcases o1 with ⟨m1, F | ⟨nm, q1⟩⟩
    · rw [att_bad HOKW.out.2 HO1.out]
      have e3 : o3 = (m1, .error F) := ho3.symm
      rw [e3] at ho4
      have e4 : o4 = (m1, .error F) := ho4.symm
      rw [e4] at h1
      rcases o5 with ⟨m5, F5 | ⟨x, q⟩⟩
      · cases h1; rfl
      · cases h1
    · rw [att_ok HOKW.out.1 HOKW.out.2 HO1.out, HTN.out _ _ _ rfl]
      unfold attO
      rw [ho3, ho4, h1, mapO_map]
      rcases o5 with ⟨m5, F5 | ⟨x, q⟩⟩
      · rfl
      · rw [h2 _ _ _ rfl])
  have HREL : Hid (AtRel w0 w xb mb s p t xs tv o4 (.slice none 0 0) (.int .i64 (0 : Nat)) w4) := hid (by
    refine ⟨[], 0, World.ownsRow_nil _ _ _ _, by simp, by simp, rfl, by omega, HT4.out, ?_⟩
    have hs4 := HSU4.out
    rcases o3 with ⟨m3, F | ⟨x, q⟩⟩
    · exact .inr ⟨m3, F, ho4.symm, hs4.1, hs4.2⟩
    · refine .inl ⟨[], q, m3, rfl, by omega, rfl, hs4, ?_⟩
      rw [← ho4]
      show mapO (fun zs => zs) (fo s m3 q (valQ 256)) = _
      show _ = fo s m3 q (valQ 256)
      rcases fo s m3 q (valQ 256) with ⟨m5, F | ⟨x, q⟩⟩ <;> rfl)
  clear ho3 ho4 HSU4 HSU3 HSU2 HT2 HT3 HT4 HT0
  go_wp2_with fail
  go_loopw [3, 4] (fun vb vi wr => AtRel w0 w xb mb s p t xs tv o4 vb vi wr) (fun _ _ wr => mR s xb wr)
  case atStart => exact HREL.out
  case round =>
    obtain ⟨bs, k, hrb, h256, hbl, rfl, hk, hT, hways⟩ := hrel
    have HRB := hid hrb
    have H256 := hid h256
    have HBL := hid hbl
    have HT := hid hT
    have hkI : (k : Int) ≤ 257 := by omega
    have hk0 : (0 : Int) ≤ (k : Int) := by omega
    clear hrb h256 hbl hT
    rcases hways with ⟨ys, q, m', hky, hk2, hbs, hs, hoo⟩ | ⟨m1, F, hoo, hx, hwo⟩
    · have HSK := hid hs
      have HOO := hid hoo
      have HKY := hid hky
      have HK2 := hid hk2
      have HBS := hid hbs
      have d1 : wr.cell? ⟨xb, 1, none⟩ = some (.string s) := hs.ru.rs.c.cell 1
      have d2 : wr.cell? ⟨xb, 2, none⟩ = some (.int .i64 (q : Int)) := hs.ru.rs.c.cell 2
      clear hs hoo hky hk2 hbs
      have HMQ := hid (fun n => more_c (HSK.out.ru.still (only_drewN wr n)).rs)
      simp only [Bool.not_false, Bool.true_and] at HMQ
      rcases HSK.out.ru.nil_or with ⟨hqs, hh⟩ | ⟨hqs, hh⟩
      · have hqI : (q : Int) < (s.size : Int) := by omega
        obtain ⟨b, hb⟩ : ∃ b, s[q]'hqs = b := ⟨_, rfl⟩
        rw [hb] at hh
        rw [decide_eq_true hqs] at HMQ
        have HHD := hid hh
        clear hh
        by_cases h34 : b.toNat = 34
        · have HSTOP := hid (show (rest s q).head? = some 34 ∨ (rest s q).head? = none from .inl (by rw [HHD.out, h34]))
          have heI : (b.toNat : Int) = 34 := by omega
          have heB : ((b.toNat : Int) == 34) = true := by simpa using heI
          have heB2 : ((b.toNat : Int) != 34) = false := by simpa using heI
          clear h34 heI
          go_wp2
          go_quiet ((first | (go_at_call 51; exact Calls.quiet_of (HMQ.out _))))
          obtain ⟨W1, hW1⟩ : ∃ W1, wr.drewN nq = W1 := ⟨_, rfl⟩
          have HT1 := hid (show Blk W1 w.heap.size [.int .i64 2, .int .i64 p, .int .i64 0, .string t, .string ⟨#[]⟩, .slice none 0 0, .bool false] 48 by rw [← hW1]; exact HT.out.drewN nq)
          have HR1 := hid (row_only HRB.out (only_drewN wr nq) (by simp))
          obtain ⟨o', ho'⟩ : ∃ o' : O Unit, o' = (m', .ok ((), q)) := ⟨_, rfl⟩
          have HSU := hid (show SU w0 W1 xb mb s xs tv o' by rw [← hW1, ho']; exact HSK.out.still (only_drewN wr nq))
          have HEQ : Hid (fo s m p (attP p) = mapO (fun _ => (⟨2, p, 0, bl t, bs, false, []⟩ : Tk)) (bindO s o' (word 70 [34]))) := hid (HATT.out _ bs ys (by
            rw [← HOO.out, valQ_stop HSK.out.ru.rs.ok HSK.out.ru.why HSTOP.out, mapO_map, ho', List.append_nil]
            rfl) (fun _ _ _ _ => HBS.out))
          rw [hW1] at HR1 ⊢
          clear hW1 ho'
          have HWT := hid (want_u HSU.out 34 (by decide))
          obtain ⟨o5, ho5⟩ : ∃ o5 : O Unit, bindO s o' (word 70 [34]) = o5 := ⟨_, rfl⟩
          rw [ho5] at HWT HEQ
          clear ho5
          go_wp2_with fail
          refine HWT.out.mono ?_
          rintro e w5 ⟨rfl, hsu5, hol⟩
          have HSU5 := hid hsu5
          have HT5 := hid (hol.blk HT1.out (by simp; omega))
          have hr5 := row_only HR1.out hol (fun b hb hm => by have h1 := (row_ge HR1.out b hb).1; simp at hm; omega)
          have hcv := RB.str hr5 H256.out
          have b0 := HT5.out.cell 0
          have b1 := HT5.out.cell 1
          have b2 := HT5.out.cell 2
          have b3 := HT5.out.cell 3
          have b4 := HT5.out.cell 4
          have b5 := HT5.out.cell 5
          have b6 := HT5.out.cell 6
          simp only [List.getElem?_cons_zero, List.getElem?_cons_succ] at b0 b1 b2 b3 b4 b5 b6
          have f4 := HT5.out.froz 4
          clear hsu5 hol hr5
          go_wp2_with fail
          obtain ⟨W6, hW6⟩ : ∃ W6, w5.setCell ⟨w.heap.size, 4, none⟩ (.string (strN bs)) = W6 := ⟨_, rfl⟩
          have HSU6 := hid (show SU w0 W6 xb mb s xs tv o5 by rw [← hW6]; exact HAPT.out 4 _ HSU5.out HT5.out.lt)
          have HT6 := hid (show Blk W6 w.heap.size [.int .i64 2, .int .i64 p, .int .i64 0, .string t, .string (strN bs), .slice none 0 0, .bool false] 48 by rw [← hW6]; exact HT5.out.set 4 _)
          have HPU := hid (put_u HSU6.out 2 p t (strN bs) false (bl t) (fun m1 x q h1 => by
            have h2 := HEQ.out
            rw [h1] at h2
            have h3 := fo_gt HOKW.out.2 (goes_att p) h2
            have h4 := HS.out.len
            exact ⟨by omega, rfl⟩))
          rw [hW6]
          clear hW6
          refine HPU.out.mono ?_
          rintro e w7 ⟨rfl, hpx⟩
          have HRES : Hid (PX w0 w7 xb mb s xs (finT (fo s m p (attP p)))) := hid (by
            rw [HEQ.out]
            have h2 := hpx
            rw [bl_strN _ H256.out] at h2
            exact h2)
          clear hpx
          go_wp2
          exact bodyPost_end (results_none (fn := Tryd.f79) rfl _ _ _) rfl ⟨rfl, HRES.out⟩
        · have HN34 := hid h34
          have heI : ¬ (b.toNat : Int) = 34 := by omega
          have heB : ((b.toNat : Int) == 34) = false := by simpa using heI
          have heB2 : ((b.toNat : Int) != 34) = true := by simpa using heI
          clear h34 heI
          by_cases hk6 : k = 256
          · have HP : Hid (o4 = (erM s m' q, .error (erF s m' q 72))) := hid (by
              rw [← HOO.out, show 256 - k = 0 by omega, valQ_long HHD.out HN34.out]
              rfl)
            have hkI2 : (k : Int) = 256 := by omega
            have hkB : ((k : Int) == 256) = true := by simpa using hkI2
            clear hkI2 hk6
            go_wp2
            go_quiet ((first | (go_at_call 51; exact Calls.quiet_of (HMQ.out _))))
            obtain ⟨W1, hW1⟩ : ∃ W1, wr.drewN nq = W1 := ⟨_, rfl⟩
            have HT1 := hid (show Blk W1 w.heap.size [.int .i64 2, .int .i64 p, .int .i64 0, .string t, .string ⟨#[]⟩, .slice none 0 0, .bool false] 48 by rw [← hW1]; exact HT.out.drewN nq)
            have HR1 := hid (row_only HRB.out (only_drewN wr nq) (by simp))
            have HS1 := hid (show Sx w0 W1 xb mb s q m' xs tv by rw [← hW1]; exact HSK.out.still (only_drewN wr nq))
            rw [hW1] at HR1 ⊢
            clear hW1
            have c1 : W1.cell? ⟨xb, 1, none⟩ = some (.string s) := HS1.out.ru.rs.c.cell 1
            have c2 : W1.cell? ⟨xb, 2, none⟩ = some (.int .i64 (q : Int)) := HS1.out.ru.rs.c.cell 2
            go_wp2_with fail
            have HSB := HS1
            have HTB := HT1
            have HRBB := HR1
            refine (bad_c HS1.out.ru 72).mono ?_
            rintro e w2 ⟨rfl, hx, hol⟩
            have HX2 := hid hx
            have HO2 := hid (HSB.out.off hol)
            have HT2 := hid (hol.blk HTB.out (by simp; omega))
            have HR2 := hid (row_only HRBB.out hol (fun b hb hm => by have h1 := (row_ge HRBB.out b hb).1; simp at hm; omega))
            clear hx hol
            go_wp2
            go_roundw
            case rel => exact ⟨bs, k + 1, HR2.out, H256.out, (by have := HBL.out; omega), congrArg (Value.int .i64) (show (k : Int) + 1 = ((k + 1 : Nat) : Int) by omega), (by have := HK2.out; omega), HT2.out, .inr ⟨_, _, HP.out, HX2.out, HO2.out⟩⟩
            case measure =>
              rw [mR_fine HSK.out.ru, mR_wrong HX2.out]
              omega
          · have HN256 := hid hk6
            have hkI2 : ¬ (k : Int) = 256 := by omega
            have hkB : ((k : Int) == 256) = false := by simpa using hkI2
            clear hkI2 hk6
            by_cases h60 : b.toNat = 60
            · have HP : Hid (o4 = (erM s m' q, .error (erF s m' q 70))) := hid (by
                rw [← HOO.out, show 256 - k = (255 - k) + 1 by have := HK2.out; have := HN256.out; omega, valQ_tag (by rw [HHD.out, h60])]
                rfl)
              have heI : (b.toNat : Int) = 60 := by omega
              have hcB : ((b.toNat : Int) == 60) = true := by simpa using heI
              clear h60 heI
              go_wp2
              go_quiet ((first | (go_at_call 51; exact Calls.quiet_of (HMQ.out _))))
              obtain ⟨W1, hW1⟩ : ∃ W1, wr.drewN nq = W1 := ⟨_, rfl⟩
              have HT1 := hid (show Blk W1 w.heap.size [.int .i64 2, .int .i64 p, .int .i64 0, .string t, .string ⟨#[]⟩, .slice none 0 0, .bool false] 48 by rw [← hW1]; exact HT.out.drewN nq)
              have HR1 := hid (row_only HRB.out (only_drewN wr nq) (by simp))
              have HS1 := hid (show Sx w0 W1 xb mb s q m' xs tv by rw [← hW1]; exact HSK.out.still (only_drewN wr nq))
              rw [hW1] at HR1 ⊢
              clear hW1
              have c1 : W1.cell? ⟨xb, 1, none⟩ = some (.string s) := HS1.out.ru.rs.c.cell 1
              have c2 : W1.cell? ⟨xb, 2, none⟩ = some (.int .i64 (q : Int)) := HS1.out.ru.rs.c.cell 2
              go_wp2
              go_quiet (fail)
              go_wp2_with fail
              have HSB := hid (HS1.out.still (only_drewN W1 nq))
              have HTB := hid (HT1.out.drewN nq)
              have HRBB := hid (row_only HR1.out (only_drewN W1 nq) (by simp))
              refine (bad_c HSB.out.ru 70).mono ?_
              rintro e w2 ⟨rfl, hx, hol⟩
              have HX2 := hid hx
              have HO2 := hid (HSB.out.off hol)
              have HT2 := hid (hol.blk HTB.out (by simp; omega))
              have HR2 := hid (row_only HRBB.out hol (fun b hb hm => by have h1 := (row_ge HRBB.out b hb).1; simp at hm; omega))
              clear hx hol
              go_wp2
              go_roundw
              case rel => exact ⟨bs, k + 1, HR2.out, H256.out, (by have := HBL.out; omega), congrArg (Value.int .i64) (show (k : Int) + 1 = ((k + 1 : Nat) : Int) by omega), (by have := HK2.out; omega), HT2.out, .inr ⟨_, _, HP.out, HX2.out, HO2.out⟩⟩
              case measure =>
                rw [mR_fine HSK.out.ru, mR_wrong HX2.out]
                omega
            · have HN60 := hid h60
              have heI : ¬ (b.toNat : Int) = 60 := by omega
              have hcB : ((b.toNat : Int) == 60) = false := by simpa using heI
              clear h60 heI
              go_wp2
              go_quiet ((first | (go_at_call 51; exact Calls.quiet_of (HMQ.out _))))
              obtain ⟨W1, hW1⟩ : ∃ W1, wr.drewN nq = W1 := ⟨_, rfl⟩
              have HT1 := hid (show Blk W1 w.heap.size [.int .i64 2, .int .i64 p, .int .i64 0, .string t, .string ⟨#[]⟩, .slice none 0 0, .bool false] 48 by rw [← hW1]; exact HT.out.drewN nq)
              have HR1 := hid (row_only HRB.out (only_drewN wr nq) (by simp))
              have HS1 := hid (show Sx w0 W1 xb mb s q m' xs tv by rw [← hW1]; exact HSK.out.still (only_drewN wr nq))
              rw [hW1] at HR1 ⊢
              clear hW1
              have c1 : W1.cell? ⟨xb, 1, none⟩ = some (.string s) := HS1.out.ru.rs.c.cell 1
              have c2 : W1.cell? ⟨xb, 2, none⟩ = some (.int .i64 (q : Int)) := HS1.out.ru.rs.c.cell 2
              go_wp2
              go_quiet (fail)
              obtain ⟨W2, hW2⟩ : ∃ W2, W1.drewN nq = W2 := ⟨_, rfl⟩
              have HT2 := hid (show Blk W2 w.heap.size [.int .i64 2, .int .i64 p, .int .i64 0, .string t, .string ⟨#[]⟩, .slice none 0 0, .bool false] 48 by rw [← hW2]; exact HT1.out.drewN nq)
              have HR2 := hid (row_only HR1.out (only_drewN W1 nq) (by simp))
              have HS2 := hid (show Sx w0 W2 xb mb s q m' xs tv by rw [← hW2]; exact HS1.out.still (only_drewN W1 nq))
              rw [hW2] at HR2 ⊢
              clear hW2 c1 c2
              rcases hch : fo s m' q chrP with ⟨m1, F | ⟨x, q1⟩⟩
              · have hoE : o4 = (m1, .error F) := by
                  rw [← HOO.out, show 256 - k = (255 - k) + 1 by have := HK2.out; have := HN256.out; omega, valQ_bad HSK.out.ru.why HHD.out HN34.out HN60.out hch]
                  rfl
                have HOE := hid hoE
                have HCH := hid (fun W (h : RU W xb mb s q tv m') => (by have := charR_c h hqs; rw [hch] at this; exact this : Calls Tryd.prog 73 #[.pointer (some ⟨xb, 0, none⟩)] W fun e w' => ((∃ i a b : Int, e = .returned (.agg #[.int .i64 i, .int .i64 a, .int .i64 b])) ∧ RX w' xb mb s m1 F) ∧ Only [xb, mb] W w'))
                clear hch hoE
                go_wp2_with fail
                refine (HCH.out _ HS2.out.ru).mono ?_
                rintro e w3 ⟨⟨⟨i, a1, b1, rfl⟩, hx⟩, hol⟩
                have HX3 := hid hx
                have HO3 := hid (HS2.out.off hol)
                have HT3 := hid (hol.blk HT2.out (by simp; omega))
                have HR3 := hid (row_only HR2.out hol (fun b hb hm => by have h1 := (row_ge HR2.out b hb).1; simp at hm; omega))
                clear hx hol
                go_wp2_with fail
                refine (put_any i _).mono ?_
                rintro e w4 ⟨⟨t2, rfl, ht2⟩, ho4⟩
                have HX4 := hid (HX3.out.still ho4)
                have HO4 := hid (HO3.out.trans (ho4.mono (by simp)))
                have HT4 := hid (ho4.blk HT3.out (by simp))
                have HR4 := hid (row_only HR3.out ho4 (by simp))
                clear ho4
                have hm1 : bs.length + t2.size ≤ maxLen := by have := HBL.out; have := HK2.out; unfold maxLen; omega
                have hm2 : bs.length + t2.size ≤ 140737488355328 := by have := HBL.out; have := HK2.out; omega
                go_wp2_with (at_builtin; refine Lib.wpList_append_own_string _ rfl _ _ 69 9 rfl w.heap.size 5 i5 Tryd.underlying69 Tryd.underlying9 hi5 z50 z51 z52 u3 bs.length (u8s bs) (by rfl) ?qc1 t2 (by rfl) hm1 hm2 ?qc2 ?_)
                case qc1 => exact HR4.out
                case qc2 => exact Nat.le_of_lt HT4.out.lt
                intro v' w6 hown hgrow hnil
                have HT6 : Hid (Blk w6 w.heap.size [.int .i64 2, .int .i64 p, .int .i64 0, .string t, .string ⟨#[]⟩, .slice none 0 0, .bool false] 48) := hid ((hgrow.block w.heap.size HT4.out.lt (fun e => row_not HR4.out HT4.out (by decide) e.symm)).trans HT4.out)
                have HR6 : Hid (RB w6 w.heap.size v' (bs ++ bl t2)) := hid (by
                  have h1 := hown
                  rw [strCells_bl, ← u8s_app] at h1
                  unfold RB
                  rw [List.length_append, bl_length]
                  exact h1)
                have HG6 := hid hgrow
                clear hown hgrow hnil
                have HLB := hid (show (bs ++ bl t2).length ≤ 4 * (k + 1) by rw [List.length_append, bl_length]; have := HBL.out; omega)
                have HB6 := hid (show ∀ b ∈ bs ++ bl t2, b < 256 by intro b hb; rcases List.mem_append.1 hb with h | h; exact H256.out b h; exact bl_lt t2 b h)
                have HF : Hid (RX w6 xb mb s m1 F ∧ Only [mb] w0 w6) := hid ⟨HX4.out.only (only_grown HG6.out) (fun hm => by have h1 := (row_ge HR4.out _ (mem_ob.1 hm)).1; omega) (fun hm => by have h1 := (row_ge HR4.out _ (mem_ob.1 hm)).1; omega), HO4.out.fresh (only_grown HG6.out) (fun j hj hlt => by
                  have h1 := (row_ge HR4.out j (mem_ob.1 hj)).1
                  have h2 := hfr.out
                  omega)⟩
                go_wp2
                go_roundw
                case rel => exact ⟨bs ++ bl t2, k + 1, HR6.out, HB6.out, HLB.out, congrArg (Value.int .i64) (show (k : Int) + 1 = ((k + 1 : Nat) : Int) by omega), (by have := HK2.out; omega), HT6.out, .inr ⟨_, _, HOE.out, HF.out.1, HF.out.2⟩⟩
                case measure =>
                  rw [mR_fine HSK.out.ru, mR_wrong HF.out.1]
                  omega
              · have hgt := fo_gt HSK.out.ru.why goes_chr hch
                have hru : isRune x = true := by
                  obtain ⟨n, h1, -, -⟩ := fin_ok HSK.out.ru.why hch
                  exact chr_rune h1
                have hst2 : mapO (fun zs => (ys ++ [x]) ++ zs) (fo s m1 q1 (valQ (256 - (k + 1)))) = o4 := by
                  rw [← HOO.out, show 256 - k = (255 - k) + 1 by have := HK2.out; have := HN256.out; omega, valQ_go HSK.out.ru.rs.ok HSK.out.ru.why HHD.out HN34.out HN60.out hch, mapO_map, show 256 - (k + 1) = 255 - k by omega]
                  congr 1
                  funext zs
                  simp
                have HST2 := hid hst2
                have HGT := hid hgt
                have HRU := hid hru
                have HCH := hid (fun W (h : RU W xb mb s q tv m') => (by have := charR_c h hqs; rw [hch] at this; exact this : Calls Tryd.prog 73 #[.pointer (some ⟨xb, 0, none⟩)] W fun e w' => (e = .returned (.agg #[.int .i64 x, .int .i64 q, .int .i64 q1]) ∧ RU w' xb mb s q1 tv m1) ∧ Only [xb, mb] W w'))
                clear hst2 hch hgt hru
                go_wp2_with fail
                refine (HCH.out _ HS2.out.ru).mono ?_
                rintro e w3 ⟨⟨rfl, hx⟩, hol⟩
                have HS3 := hid (HS2.out.on hx hol (by have := HGT.out; omega))
                have HT3 := hid (hol.blk HT2.out (by simp; omega))
                have HR3 := hid (row_only HR2.out hol (fun b hb hm => by have h1 := (row_ge HR2.out b hb).1; simp at hm; omega))
                clear hx hol
                go_wp2_with fail
                refine (put_c HRU.out _).mono ?_
                rintro e w4 ⟨rfl, ho4⟩
                obtain ⟨t2, ht⟩ : ∃ t2, strN (enc x) = t2 := ⟨_, rfl⟩
                have HT2E := hid (show bl t2 = enc x by rw [← ht]; exact bl_strN _ (enc_all_lt HRU.out))
                rw [ht]
                have ht2 : t2.size ≤ 4 := by rw [← bl_length, HT2E.out]; exact (enc_len x).2
                have HS4 := hid (HS3.out.still ho4)
                have HT4 := hid (ho4.blk HT3.out (by simp))
                have HR4 := hid (row_only HR3.out ho4 (by simp))
                clear ho4 ht
                have hm1 : bs.length + t2.size ≤ maxLen := by have := HBL.out; have := HK2.out; unfold maxLen; omega
                have hm2 : bs.length + t2.size ≤ 140737488355328 := by have := HBL.out; have := HK2.out; omega
                go_wp2_with (at_builtin; refine Lib.wpList_append_own_string _ rfl _ _ 69 9 rfl w.heap.size 5 i5 Tryd.underlying69 Tryd.underlying9 hi5 z50 z51 z52 u3 bs.length (u8s bs) (by rfl) ?qc1 t2 (by rfl) hm1 hm2 ?qc2 ?_)
                case qc1 => exact HR4.out
                case qc2 => exact Nat.le_of_lt HT4.out.lt
                intro v' w6 hown hgrow hnil
                have HT6 : Hid (Blk w6 w.heap.size [.int .i64 2, .int .i64 p, .int .i64 0, .string t, .string ⟨#[]⟩, .slice none 0 0, .bool false] 48) := hid ((hgrow.block w.heap.size HT4.out.lt (fun e => row_not HR4.out HT4.out (by decide) e.symm)).trans HT4.out)
                have HR6 : Hid (RB w6 w.heap.size v' (bs ++ bl t2)) := hid (by
                  have h1 := hown
                  rw [strCells_bl, ← u8s_app] at h1
                  unfold RB
                  rw [List.length_append, bl_length]
                  exact h1)
                have HG6 := hid hgrow
                clear hown hgrow hnil
                have HLB := hid (show (bs ++ bl t2).length ≤ 4 * (k + 1) by rw [List.length_append, bl_length]; have := HBL.out; omega)
                have HB6 := hid (show ∀ b ∈ bs ++ bl t2, b < 256 by intro b hb; rcases List.mem_append.1 hb with h | h; exact H256.out b h; exact bl_lt t2 b h)
                have HF : Hid (Sx w0 w6 xb mb s q1 m1 xs tv) := hid (HS4.out.apt (only_grown HG6.out) (fun hm => by have h1 := (row_ge HR4.out _ (mem_ob.1 hm)).1; omega) (fun hm => by have h1 := (row_ge HR4.out _ (mem_ob.1 hm)).1; omega) (fun b hb hm => by
                  have h1 := (row_ge HR4.out b (mem_ob.1 hm)).1
                  have h2 := HTV.out b hb
                  omega) (fun b hb hm => by
                  have h1 := (row_ge HR4.out b (mem_ob.1 hm)).1
                  have h2 := HCL.out b hb
                  omega) (fun b hm => by
                  have h1 := (row_ge HR4.out b (mem_ob.1 hm)).1
                  have h2 := hfr.out
                  omega))
                go_wp2
                go_roundw
                case rel => exact ⟨bs ++ bl t2, k + 1, HR6.out, HB6.out, HLB.out, congrArg (Value.int .i64) (show (k : Int) + 1 = ((k + 1 : Nat) : Int) by omega), (by have := HK2.out; omega), HT6.out, .inl ⟨ys ++ [x], q1, m1, by rw [List.length_append, ← HKY.out]; rfl, (by have := HN256.out; have := HK2.out; omega), by rw [HT2E.out, HBS.out]; simp, HF.out, HST2.out⟩⟩
                case measure =>
                  rw [mR_fine HSK.out.ru, mR_fine HF.out.ru]
                  have h1 := HF.out.ru.rs.le
                  have h2 := HGT.out
                  omega
      · have hqs' : ¬ q < s.size := by omega
        have HSTOP := hid (show (rest s q).head? = some 34 ∨ (rest s q).head? = none from .inr (by rw [hh]))
        clear hh hqs
        have hqs := hqs'
        rw [decide_eq_false hqs] at HMQ
        go_wp2
        go_quiet ((first | (go_at_call 51; exact Calls.quiet_of (HMQ.out _))))
        obtain ⟨W1, hW1⟩ : ∃ W1, wr.drewN nq = W1 := ⟨_, rfl⟩
        have HT1 := hid (show Blk W1 w.heap.size [.int .i64 2, .int .i64 p, .int .i64 0, .string t, .string ⟨#[]⟩, .slice none 0 0, .bool false] 48 by rw [← hW1]; exact HT.out.drewN nq)
        have HR1 := hid (row_only HRB.out (only_drewN wr nq) (by simp))
        obtain ⟨o', ho'⟩ : ∃ o' : O Unit, o' = (m', .ok ((), q)) := ⟨_, rfl⟩
        have HSU := hid (show SU w0 W1 xb mb s xs tv o' by rw [← hW1, ho']; exact HSK.out.still (only_drewN wr nq))
        have HEQ : Hid (fo s m p (attP p) = mapO (fun _ => (⟨2, p, 0, bl t, bs, false, []⟩ : Tk)) (bindO s o' (word 70 [34]))) := hid (HATT.out _ bs ys (by
          rw [← HOO.out, valQ_stop HSK.out.ru.rs.ok HSK.out.ru.why HSTOP.out, mapO_map, ho', List.append_nil]
          rfl) (fun _ _ _ _ => HBS.out))
        rw [hW1] at HR1 ⊢
        clear hW1 ho'
        have HWT := hid (want_u HSU.out 34 (by decide))
        obtain ⟨o5, ho5⟩ : ∃ o5 : O Unit, bindO s o' (word 70 [34]) = o5 := ⟨_, rfl⟩
        rw [ho5] at HWT HEQ
        clear ho5
        go_wp2_with fail
        refine HWT.out.mono ?_
        rintro e w5 ⟨rfl, hsu5, hol⟩
        have HSU5 := hid hsu5
        have HT5 := hid (hol.blk HT1.out (by simp; omega))
        have hr5 := row_only HR1.out hol (fun b hb hm => by have h1 := (row_ge HR1.out b hb).1; simp at hm; omega)
        have hcv := RB.str hr5 H256.out
        have b0 := HT5.out.cell 0
        have b1 := HT5.out.cell 1
        have b2 := HT5.out.cell 2
        have b3 := HT5.out.cell 3
        have b4 := HT5.out.cell 4
        have b5 := HT5.out.cell 5
        have b6 := HT5.out.cell 6
        simp only [List.getElem?_cons_zero, List.getElem?_cons_succ] at b0 b1 b2 b3 b4 b5 b6
        have f4 := HT5.out.froz 4
        clear hsu5 hol hr5
        go_wp2_with fail
        obtain ⟨W6, hW6⟩ : ∃ W6, w5.setCell ⟨w.heap.size, 4, none⟩ (.string (strN bs)) = W6 := ⟨_, rfl⟩
        have HSU6 := hid (show SU w0 W6 xb mb s xs tv o5 by rw [← hW6]; exact HAPT.out 4 _ HSU5.out HT5.out.lt)
        have HT6 := hid (show Blk W6 w.heap.size [.int .i64 2, .int .i64 p, .int .i64 0, .string t, .string (strN bs), .slice none 0 0, .bool false] 48 by rw [← hW6]; exact HT5.out.set 4 _)
        have HPU := hid (put_u HSU6.out 2 p t (strN bs) false (bl t) (fun m1 x q h1 => by
          have h2 := HEQ.out
          rw [h1] at h2
          have h3 := fo_gt HOKW.out.2 (goes_att p) h2
          have h4 := HS.out.len
          exact ⟨by omega, rfl⟩))
        rw [hW6]
        clear hW6
        refine HPU.out.mono ?_
        rintro e w7 ⟨rfl, hpx⟩
        have HRES : Hid (PX w0 w7 xb mb s xs (finT (fo s m p (attP p)))) := hid (by
          rw [HEQ.out]
          have h2 := hpx
          rw [bl_strN _ H256.out] at h2
          exact h2)
        clear hpx
        go_wp2
        exact bodyPost_end (results_none (fn := Tryd.f79) rfl _ _ _) rfl ⟨rfl, HRES.out⟩
    · have HOO := hid hoo
      obtain ⟨pp, vv, hxx⟩ := hx
      have HXX := hid hxx
      have HWO := hid hwo
      have HMQ := hid (fun n => more_c (HXX.out.still (only_drewN wr n)))
      simp only [Bool.not_true, Bool.false_and] at HMQ
      clear hoo hxx hwo
      go_wp2
      go_quiet ((first | (go_at_call 51; exact Calls.quiet_of (HMQ.out _))))
      obtain ⟨W1, hW1⟩ : ∃ W1, wr.drewN nq = W1 := ⟨_, rfl⟩
      have HT1 := hid (show Blk W1 w.heap.size [.int .i64 2, .int .i64 p, .int .i64 0, .string t, .string ⟨#[]⟩, .slice none 0 0, .bool false] 48 by rw [← hW1]; exact HT.out.drewN nq)
      have HR1 := hid (row_only HRB.out (only_drewN wr nq) (by simp))
      obtain ⟨o', ho'⟩ : ∃ o' : O Unit, o' = (m1, .error F) := ⟨_, rfl⟩
      have HSU := hid (show SU w0 W1 xb mb s xs tv o' by rw [← hW1, ho']; exact ⟨⟨pp, vv, HXX.out.still (only_drewN wr nq)⟩, HWO.out.drewN nq⟩)
      have HEQ : Hid (fo s m p (attP p) = mapO (fun _ => (⟨2, p, 0, bl t, bs, false, []⟩ : Tk)) (bindO s o' (word 70 [34]))) := hid (HATT.out _ bs [] (by rw [HOO.out, ho']; rfl) (fun _ _ _ h => by rw [ho'] at h; cases h))
      rw [hW1] at HR1 ⊢
      clear hW1 ho'
      have HWT := hid (want_u HSU.out 34 (by decide))
      obtain ⟨o5, ho5⟩ : ∃ o5 : O Unit, bindO s o' (word 70 [34]) = o5 := ⟨_, rfl⟩
      rw [ho5] at HWT HEQ
      clear ho5
      go_wp2_with fail
      refine HWT.out.mono ?_
      rintro e w5 ⟨rfl, hsu5, hol⟩
      have HSU5 := hid hsu5
      have HT5 := hid (hol.blk HT1.out (by simp; omega))
      have hr5 := row_only HR1.out hol (fun b hb hm => by have h1 := (row_ge HR1.out b hb).1; simp at hm; omega)
      have hcv := RB.str hr5 H256.out
      have b0 := HT5.out.cell 0
      have b1 := HT5.out.cell 1
      have b2 := HT5.out.cell 2
      have b3 := HT5.out.cell 3
      have b4 := HT5.out.cell 4
      have b5 := HT5.out.cell 5
      have b6 := HT5.out.cell 6
      simp only [List.getElem?_cons_zero, List.getElem?_cons_succ] at b0 b1 b2 b3 b4 b5 b6
      have f4 := HT5.out.froz 4
      clear hsu5 hol hr5
      go_wp2_with fail
      obtain ⟨W6, hW6⟩ : ∃ W6, w5.setCell ⟨w.heap.size, 4, none⟩ (.string (strN bs)) = W6 := ⟨_, rfl⟩
      have HSU6 := hid (show SU w0 W6 xb mb s xs tv o5 by rw [← hW6]; exact HAPT.out 4 _ HSU5.out HT5.out.lt)
      have HT6 := hid (show Blk W6 w.heap.size [.int .i64 2, .int .i64 p, .int .i64 0, .string t, .string (strN bs), .slice none 0 0, .bool false] 48 by rw [← hW6]; exact HT5.out.set 4 _)
      have HPU := hid (put_u HSU6.out 2 p t (strN bs) false (bl t) (fun m1 x q h1 => by
        have h2 := HEQ.out
        rw [h1] at h2
        have h3 := fo_gt HOKW.out.2 (goes_att p) h2
        have h4 := HS.out.len
        exact ⟨by omega, rfl⟩))
      rw [hW6]
      clear hW6
      refine HPU.out.mono ?_
      rintro e w7 ⟨rfl, hpx⟩
      have HRES : Hid (PX w0 w7 xb mb s xs (finT (fo s m p (attP p)))) := hid (by
        rw [HEQ.out]
        have h2 := hpx
        rw [bl_strN _ H256.out] at h2
        exact h2)
      clear hpx
      go_wp2
      exact bodyPost_end (results_none (fn := Tryd.f79) rfl _ _ _) rfl ⟨rfl, HRES.out⟩
end Go.Proofs.YthlbbinlkmchjaaDoor
namespace Go.Proofs.YthlbbinlkmchjaaDoor
open Go.RowKit

theorem blankR_c (b : Nat) (w : World) : Calls Tryd.prog 78 #[.int .u8 b] w fun e w' => e = .returned (.bool (isB b)) ∧ w' = w := by
  rcases (by omega : b = 32 ∨ b = 9 ∨ b = 10 ∨ b = 13 ∨ (¬ b = 32 ∧ ¬ b = 9 ∧ ¬ b = 10 ∧ ¬ b = 13)) with rfl | rfl | rfl | rfl | ⟨h1, h2, h3, h4⟩
  · go_enter Tryd.func78, Tryd.ntmps78
    go_wp2
    go_ret
    exact ⟨rfl, rfl⟩
  · go_enter Tryd.func78, Tryd.ntmps78
    go_wp2
    go_ret
    exact ⟨rfl, rfl⟩
  · go_enter Tryd.func78, Tryd.ntmps78
    go_wp2
    go_ret
    exact ⟨rfl, rfl⟩
  · go_enter Tryd.func78, Tryd.ntmps78
    go_wp2
    go_ret
    exact ⟨rfl, rfl⟩
  · have hb : isB b = false := by unfold isB; exact decide_eq_false (by omega)
    rw [hb]
    have g1 : ((b : Int) == 32) = false := by simpa using (by omega : ¬ (b : Int) = 32)
    have g2 : ((b : Int) == 9) = false := by simpa using (by omega : ¬ (b : Int) = 9)
    have g3 : ((b : Int) == 10) = false := by simpa using (by omega : ¬ (b : Int) = 10)
    have g4 : ((b : Int) == 13) = false := by simpa using (by omega : ¬ (b : Int) = 13)
    clear h1 h2 h3 h4 hb
    go_enter Tryd.func78, Tryd.ntmps78
    go_wp2
    go_ret
    exact ⟨rfl, rfl⟩
/-- behind a token: the scan goes on in the mode that the token leaves, or all is told -/
def NX (w0 w : World) (xb mb : Nat) (s : ByteArray) (o : A) (q0 md : Nat) : Prop :=
  (∃ q xs m tv, Sx w0 w xb mb s q m xs tv ∧ An s m (xs.map (·.1)) md q = o ∧ q0 < q) ∨ (∃ m1 F, o = (m1, .error F) ∧ RX w xb mb s m1 F ∧ Only [mb] w0 w)
theorem PX.next {w0 w w' : World} {xb mb : Nat} {s : ByteArray} {q : Nat} {m : M} {xs : List (Tk × Tm)} {tv : Value} (hs : Sx w0 w xb mb s q m xs tv) {P : Pz Tk} (h : PX w0 w' xb mb s xs (finT (fo s m q P))) {o : A} (ho : tokA s m (xs.map (·.1)) q P = o) {kd : Nat} (hk : ∀ l t n, P l = .ok (t, n) → t.kd = kd)
    (hg : ∀ t n, P (rest s q) = .ok (t, n) → 1 ≤ n) : NX w0 w' xb mb s o q (if kd = 1 ∨ kd = 2 then 1 else 0) := by
  unfold tokA at ho
  rcases hf : finT (fo s m q P) with ⟨m1, F | ⟨t, q'⟩⟩
  · rw [hf] at h ho
    exact .inr ⟨m1, F, ho.symm, h.1, h.2⟩
  · rw [hf] at h ho
    obtain ⟨m0, t0, h0, h1⟩ := finT_ok hf
    obtain ⟨n, hn, hq, -⟩ := fin_ok hs.ru.why h0
    have hkd := hk _ _ _ hn
    have hgn := hg _ _ hn
    obtain ⟨u, tv', hsc⟩ := h
    refine .inl ⟨_, _, _, tv', hsc, ?_, by omega⟩
    rw [← ho, List.map_append]
    show An s m1 _ _ q' = An s m1 _ (within t) q'
    unfold within
    rw [h1, hkd]
    rfl
end Go.Proofs.YthlbbinlkmchjaaDoor
namespace Go.Proofs.YthlbbinlkmchjaaDoor
open Go.RowKit

theorem end_slash {s : ByteArray} {m : M} (hok : m.Ok) (hw : m.why = 0) {q : Nat} (h : (rest s q).head? = some 47) :
    fo s m q (endP q) = mapO (fun _ => (⟨3, q, 0, [], [], true, []⟩ : Tk)) (bindO s (fo s m q (word 70 [47])) (word 70 [62])) := by
  have h1 : fo s m q (endP q) = fo s m q (andThen (word 70 [47, 62]) fun _ _ => done (⟨3, q, 0, [], [], true, []⟩ : Tk)) := by
    unfold endP
    rw [fo_look, if_pos h]
  rw [h1, bind_word hok hw]
  rcases h2 : fo s m q (word 70 [47]) with ⟨m1, F | ⟨u, q1⟩⟩
  · rfl
  · exact fo_map (fo_mok hok h2) (fo_why hw h2) (fair_word _ _) _
theorem end_plain {s : ByteArray} {m : M} (hok : m.Ok) (hw : m.why = 0) {q : Nat} (h : ¬ (rest s q).head? = some 47) :
    fo s m q (endP q) = mapO (fun _ => (⟨3, q, 0, [], [], false, []⟩ : Tk)) (fo s m q (word 70 [62])) := by
  have h1 : fo s m q (endP q) = fo s m q (andThen (word 70 [62]) fun _ _ => done (⟨3, q, 0, [], [], false, []⟩ : Tk)) := by
    unfold endP
    rw [fo_look, if_neg h]
  rw [h1]
  exact fo_map hok hw (fair_word _ _) _
/-- where no blank stands, within a tag: its end is wanted -/
theorem An_close {s : ByteArray} {m : M} (T : List Tk) {q : Nat} (h : ∀ b, (rest s q).head? = some b → isB b = false) : An s m T 1 q = tokA s m T q (endP q) := by
  rcases hh : (rest s q).head? with _ | b
  · have hn : rest s q = [] := List.head?_eq_none_iff.1 hh
    have hq : ¬ q < s.size := by
      intro e
      have := rest_length s q
      rw [hn] at this
      simp at this
      omega
    have h1 : fo s m q (endP q) = fo s m q (fails 70) := by
      refine fo_congr ?_
      rw [hn]
      rfl
    unfold tokA
    rw [h1, fo_fails]
    unfold An
    rw [GS_nil1 0 hh]
    simp only [ans]
    rw [if_neg hq]
    show _ = (erM s m q, Except.error (erF s m q 70))
    unfold erM erF
    have e : (if 0 < s.size - q then 1 else 0 : Nat) = q - q := by rw [if_neg (by omega)]; omega
    rw [e]
  · have hb := h b hh
    by_cases he : b = 47 ∨ b = 62
    · exact An_part T hh (P := endP q) (by unfold part; simp [hb, he])
    · have h1 := An_part (m := m) T hh (P := (fails 70 : Pz Tk)) (md := 1) (by
        unfold part
        simp [hb, he])
      rw [h1]
      unfold tokA
      have h2 : fo s m q (endP q) = fo s m q (fails 70) := by
        unfold endP
        rw [fo_look, if_neg (by rw [hh]; intro e; exact he (.inl (Option.some.inj e))), fo_word_bad (by rw [hh]; intro e; exact he (.inr (Option.some.inj e))), fo_fails]
      rw [h2]
      rfl
end Go.Proofs.YthlbbinlkmchjaaDoor
namespace Go.Proofs.YthlbbinlkmchjaaDoor
open Go.RowKit

theorem take_u {w0 w : World} {xb mb : Nat} {s : ByteArray} {q : Nat} {m : M} {xs : List (Tk × Tm)} {tv : Value} (h : Sx w0 w xb mb s q m xs tv) {c : Nat} (hh : (rest s q).head? = some c) :
    Calls Tryd.prog 53 #[.pointer (some ⟨xb, 0, none⟩)] w fun e w' => e = .returned (.tuple #[]) ∧ SU w0 w' xb mb s xs tv (fo s m q (word 70 [c])) ∧ Only [xb, mb] w w' := by
  have hq : q < s.size := by
    rcases h.ru.nil_or with ⟨g, -⟩ | ⟨-, g⟩
    · exact g
    · rw [g] at hh; cases hh
  have hwd : fo s m q (word 70 [c]) = fo s m q (andThen skip fun _ _ => done ()) := by
    refine fo_congr ?_
    have h2 : word 70 [c] (rest s q) = (andThen (byteP (· == c) 70) fun _ _ => (done () : Pz Unit)) (rest s q) := rfl
    rw [h2]
    unfold andThen
    rw [byteP_head hh (by simp)]
  refine (take_c h.ru hq).mono ?_
  rintro e w' ⟨rfl, h1, h2, ho⟩
  refine ⟨rfl, ?_, ho⟩
  rw [hwd]
  rcases hs : m.stepOk 1 with _ | _
  · rw [fo_skip_no h.ru.why hq hs]
    exact ⟨h2 hs, h.off ho⟩
  · rw [fo_skip_yes h.ru.why hq hs, fo_done (h1 hs).rs.ok (h1 hs).why]
    exact h.on (h1 hs) ho (by omega)
/-- the reader behind some blanks within a tag -/
def BL (w0 : World) (xb mb : Nat) (s : ByteArray) (o : A) (q1 : Nat) (ys : List (Tk × Tm)) (tv1 : Value) (wr : World) : Prop :=
  (∃ q2 m2, Sx w0 wr xb mb s q2 m2 ys tv1 ∧ q1 ≤ q2 ∧ ((q2 = q1 ∧ An s m2 (ys.map (·.1)) 1 q2 = o) ∨ (q1 < q2 ∧ An s m2 (ys.map (·.1)) 2 q2 = o))) ∨ (∃ m2 F, o = (m2, .error F) ∧ RX wr xb mb s m2 F ∧ Only [mb] w0 wr)

set_option maxRecDepth 100000 in
set_option maxHeartbeats 16000000 in
theorem openx_c {w0 w : World} {xb mb : Nat} {s : ByteArray} {q at_ : Nat} {m : M} {xs : List (Tk × Tm)} {tv : Value} (h : Sx w0 w xb mb s q m xs tv) {o : A} (ho : tokA s m (xs.map (·.1)) q (openP at_) = o) :
    Calls Tryd.prog 58 #[.pointer (some ⟨xb, 0, none⟩), .int .i64 at_] w fun e w' => e = .returned (.tuple #[]) ∧ NX w0 w' xb mb s o q 0 := by
  have HS := hid h
  have hok := h.ru.rs.ok
  have hw := h.ru.why
  have HOKW := hid (And.intro hok hw)
  have HO := hid ho
  have hlt := h.ru.rs.c.lt
  have hltm := h.ru.rs.mt.lt
  have hcl : ∀ b ∈ cbs xs, b < w.heap.size := fun b hb => by
    obtain ⟨x, hx, hxb⟩ := mem_cbs.1 hb
    exact (row_ge (h.tl.rel x hx).ch b hxb).2
  have HCL := hid hcl
  have hfr := hid h.fr.size
  have HTV := hid (fun b hb => (row_ge h.tl.row b hb).2)
  clear hok hw hcl h ho
  go_enter Tryd.func58, Tryd.ntmps58
  go_wp2_with fail
  obtain ⟨W0, hW0⟩ : ∃ W0, w.alloc (.cells #[.int .i64 1, .int .i64 at_, .int .i64 0, .string ⟨#[]⟩, .string ⟨#[]⟩, .slice none 0 0, .bool false] 48) = W0 := ⟨_, rfl⟩
  have HT0 := hid (show Blk W0 w.heap.size [.int .i64 1, .int .i64 at_, .int .i64 0, .string ⟨#[]⟩, .string ⟨#[]⟩, .slice none 0 0, .bool false] 48 by rw [← hW0]; exact Blk.new w #[.int .i64 1, .int .i64 at_, .int .i64 0, .string ⟨#[]⟩, .string ⟨#[]⟩, .slice none 0 0, .bool false] 48 rfl)
  have HN := hid (name_u (show Sx w0 W0 xb mb s q m xs tv by rw [← hW0]; exact HS.out.still ((Only.refl [] w).alloc _)))
  rw [hW0]
  clear hW0
  refine HN.out.mono ?_
  rintro e w1 ⟨t, rfl, ht, hsu, hol⟩
  have HTN := hid ht
  have HSU1 := hid hsu
  have HT1 := hid (hol.blk HT0.out (by simp; omega))
  have b0 := HT1.out.cell 0
  have b1 := HT1.out.cell 1
  have b2 := HT1.out.cell 2
  have b3 := HT1.out.cell 3
  have b4 := HT1.out.cell 4
  have b5 := HT1.out.cell 5
  have b6 := HT1.out.cell 6
  simp only [List.getElem?_cons_zero, List.getElem?_cons_succ] at b0 b1 b2 b3 b4 b5 b6
  have f3 := HT1.out.froz 3
  clear ht hsu hol HN
  go_wp2_with fail
  obtain ⟨W2, hW2⟩ : ∃ W2, w1.setCell ⟨w.heap.size, 3, none⟩ (.string t) = W2 := ⟨_, rfl⟩
  obtain ⟨o1, ho1⟩ : ∃ o1 : O (List Nat), fo s m q name = o1 := ⟨_, rfl⟩
  rw [ho1] at HSU1 HTN
  have HSU2 := hid (show SU w0 W2 xb mb s xs tv o1 by
    rw [← hW2]
    refine HSU1.out.apt (L := [w.heap.size]) ((Only.refl [w.heap.size] _).set (p := ⟨w.heap.size, 3, none⟩) (.inl (by simp)) _) (by simp; omega) (by simp; omega) (fun b hb hm => ?_) (fun b hb hm => ?_) (fun b hm => ?_)
    · have h1 := HTV.out b hb
      simp at hm; omega
    · have h1 := HCL.out b hb
      simp at hm; omega
    · simp at hm
      subst hm
      exact hfr.out)
  have HOP : Hid (fo s m q (openP at_) = mapO (fun _ => (⟨1, at_, 0, bl t, [], false, []⟩ : Tk)) o1) := hid (by
    have h1 : fo s m q (openP at_) = mapO (fun nm => (⟨1, at_, 0, nm, [], false, []⟩ : Tk)) (fo s m q name) := fo_map HOKW.out.1 HOKW.out.2 fair_name _
    rw [h1, ho1]
    rcases o1 with ⟨m1, F | ⟨nm, q1⟩⟩
    · rfl
    · rw [HTN.out _ _ _ rfl]
      rfl)
  have HPU := hid (put_u HSU2.out 1 at_ t ⟨#[]⟩ false (bl t) (fun m1 x q1 h1 => by
    rw [h1] at ho1
    have h3 := fo_gt HOKW.out.2 goes_name ho1
    have h4 := HS.out.len
    exact ⟨by omega, rfl⟩))
  rw [hW2]
  clear hW2 ho1 HSU1 HT1 HT0 b0 b1 b2 b3 b4 b5 b6 f3
  refine HPU.out.mono ?_
  rintro e w3 ⟨rfl, hpx⟩
  have HNX := hid (show NX w0 w3 xb mb s o q 1 by
    have h2 : PX w0 w3 xb mb s xs (finT (fo s m q (openP at_))) := by
      rw [HOP.out]
      exact hpx
    exact h2.next HS.out HO.out (kd := 1) (fun l t n h => open_kd h) (fun t n h => goes_then goes_name _ _ _ h))
  clear hpx HPU HSU2
  go_wp2_with fail
  go_loopw [] (fun wr => NX w0 wr xb mb s o q 1) (fun wr => mR s xb wr)
  case atStart => exact HNX.out
  case round =>
    rcases hrel with ⟨q1, ys, m1, tv1, hs, hoo, hlt1⟩ | ⟨m1, F, hoo, hx, hwo⟩
    · have HS1 := hid hs
      have HO1 := hid hoo
      have HQ := hid hlt1
      have c6 : wr.cell? ⟨xb, 6, none⟩ = some (.bool false) := hs.ru.rs.c.cell 6
      have c2 : wr.cell? ⟨xb, 2, none⟩ = some (.int .i64 q1) := hs.ru.rs.c.cell 2
      clear hs hoo hlt1
      go_wp2_with fail
      go_loopw [] (fun wr2 => BL w0 xb mb s o q1 ys tv1 wr2) (fun wr2 => mR s xb wr2)
      case atStart => exact .inl ⟨q1, m1, HS1.out, Nat.le_refl _, .inl ⟨rfl, HO1.out⟩⟩
      case round =>
        rcases hrel with ⟨q2, m2, hs2, hge, hmd⟩ | ⟨m2, F, hoo, hx, hwo⟩
        · have HSK := hid hs2
          have HMD := hid hmd
          have HGE := hid hge
          have d1 : wr.cell? ⟨xb, 1, none⟩ = some (.string s) := hs2.ru.rs.c.cell 1
          have d2 : wr.cell? ⟨xb, 2, none⟩ = some (.int .i64 (q2 : Int)) := hs2.ru.rs.c.cell 2
          clear hs2 hmd hge c2 c6
          have HMQ := hid (fun n => more_c (HSK.out.ru.still (only_drewN wr n)).rs)
          simp only [Bool.not_false, Bool.true_and] at HMQ
          rcases HSK.out.ru.nil_or with ⟨hqs, hh⟩ | ⟨hqs, hh⟩
          · have hqI : (q2 : Int) < (s.size : Int) := by omega
            obtain ⟨b, hb⟩ : ∃ b, s[q2]'hqs = b := ⟨_, rfl⟩
            rw [hb] at hh
            rw [decide_eq_true hqs] at HMQ
            have HHD := hid hh
            clear hh
            have HBK := hid (fun W => blankR_c b.toNat W)
            have HLT := hid (fun W => letterR_c b.toNat W)
            rcases hbk : isB b.toNat with _ | _
            · rw [hbk] at HBK
              have HNB := hid hbk
              clear hbk
              have HCLOSE : Hid (An s m2 (ys.map (·.1)) 1 q2 = tokA s m2 (ys.map (·.1)) q2 (endP q2)) := hid (An_close _ (fun c hc => by rw [HHD.out] at hc; cases hc; exact HNB.out))
              rcases hlet : isL b.toNat with _ | _
              · rw [hlet] at HLT
                have HCLO : Hid (tokA s m2 (ys.map (·.1)) q2 (endP q2) = o) := hid (by
                  rw [← HCLOSE.out]
                  rcases HMD.out with ⟨_, h1⟩ | ⟨_, h1⟩
                  · exact h1
                  · rw [← h1]
                    unfold An
                    rw [GS_two (by rw [HHD.out]; exact hlet)])
                clear hlet
                go_wp2
                go_quiet ((first | (go_at_call 51; exact Calls.quiet_of (HMQ.out _)) | (go_at_call 78; exact Calls.quiet_of_same (HBK.out _))))
                obtain ⟨W1, hW1⟩ : ∃ W1, wr.drewN nq = W1 := ⟨_, rfl⟩
                have HS1' := hid (show Sx w0 W1 xb mb s q2 m2 ys tv1 by rw [← hW1]; exact HSK.out.still (only_drewN wr nq))
                rw [hW1]
                clear hW1 d1 d2 HMQ
                have d1 : W1.cell? ⟨xb, 1, none⟩ = some (.string s) := HS1'.out.ru.rs.c.cell 1
                have d2 : W1.cell? ⟨xb, 2, none⟩ = some (.int .i64 (q2 : Int)) := HS1'.out.ru.rs.c.cell 2
                have HMQ := hid (fun n => more_c (HS1'.out.ru.still (only_drewN W1 n)).rs)
                simp only [Bool.not_false, Bool.true_and] at HMQ
                rw [decide_eq_true hqs] at HMQ
                go_wp2
                go_quiet ((first | (go_at_call 51; exact Calls.quiet_of (HMQ.out _)) | (go_at_call 75; exact Calls.quiet_of_same (HLT.out _))))
                obtain ⟨W2, hW2⟩ : ∃ W2, W1.drewN nq = W2 := ⟨_, rfl⟩
                have HS2 := hid (show Sx w0 W2 xb mb s q2 m2 ys tv1 by rw [← hW2]; exact HS1'.out.still (only_drewN W1 nq))
                rw [hW2]
                clear hW2 d1 d2 HMQ
                have c2 : W2.cell? ⟨xb, 2, none⟩ = some (.int .i64 q2) := HS2.out.ru.rs.c.cell 2
                have HTV := hid (fun b hb => (row_ge HS2.out.tl.row b hb).2)
                have HCB := hid (show ∀ b ∈ cbs ys, b < W2.heap.size from fun b hb => by
                  obtain ⟨x, hx, hxb⟩ := mem_cbs.1 hb
                  exact (row_ge (HS2.out.tl.rel x hx).ch b hxb).2)
                have HFR := hid HS2.out.fr.size
                have hltU := HS2.out.ru.rs.c.lt
                have hltUm := HS2.out.ru.rs.mt.lt
                have HIS := hid (fun W (h : RU W xb mb s q2 tv1 m2) => is_c h.rs 47 (by decide))
                simp only [Bool.not_false, Bool.true_and] at HIS
                go_wp2_with fail
                obtain ⟨W3, hW3⟩ : ∃ W3, W2.alloc (.cells #[.int .i64 3, .int .i64 q2, .int .i64 0, .string ⟨#[]⟩, .string ⟨#[]⟩, .slice none 0 0, .bool false] 48) = W3 := ⟨_, rfl⟩
                have HS3 := hid (show Sx w0 W3 xb mb s q2 m2 ys tv1 by rw [← hW3]; exact HS2.out.still ((Only.refl [] W2).alloc _))
                obtain ⟨U, hU⟩ : ∃ U, W2.heap.size = U := ⟨_, rfl⟩
                have HU3 := hid (show Blk W3 U [.int .i64 3, .int .i64 q2, .int .i64 0, .string ⟨#[]⟩, .string ⟨#[]⟩, .slice none 0 0, .bool false] 48 by rw [← hW3, ← hU]; exact Blk.new W2 #[.int .i64 3, .int .i64 q2, .int .i64 0, .string ⟨#[]⟩, .string ⟨#[]⟩, .slice none 0 0, .bool false] 48 rfl)
                rw [hU] at HTV HCB HFR hltU hltUm
                rw [hW3, hU]
                clear hW3 hU c2
                by_cases h47 : (rest s q2).head? = some 47
                · rw [decide_eq_true h47] at HIS
                  have hq2 : q2 < s.size := by
                    rcases HS2.out.ru.nil_or with ⟨g, -⟩ | ⟨-, g⟩
                    · exact g
                    · rw [g] at h47; cases h47
                  have HEO0 := hid (end_slash HS2.out.ru.rs.ok HS2.out.ru.why h47)
                  have HTK := hid (fun W (hs : Sx w0 W xb mb s q2 m2 ys tv1) => take_u hs h47)
                  clear h47
                  refine (HIS.out _ HS3.out.ru).mono ?_
                  rintro e w4 ⟨rfl, n4, rfl⟩
                  obtain ⟨W4, hW4⟩ : ∃ W4, W3.drewN n4 = W4 := ⟨_, rfl⟩
                  have HS4 := hid (show Sx w0 W4 xb mb s q2 m2 ys tv1 by rw [← hW4]; exact HS3.out.still (only_drewN _ _))
                  have HU4 := hid (show Blk W4 U [.int .i64 3, .int .i64 q2, .int .i64 0, .string ⟨#[]⟩, .string ⟨#[]⟩, .slice none 0 0, .bool false] 48 by rw [← hW4]; exact HU3.out.drewN n4)
                  rw [hW4]
                  clear hW4
                  have b6 := HU4.out.cell 6
                  have f6 := HU4.out.froz 6
                  simp only [List.getElem?_cons_zero, List.getElem?_cons_succ] at b6
                  go_wp2_with fail
                  obtain ⟨W5, hW5⟩ : ∃ W5, W4.setCell ⟨U, 6, none⟩ (.bool true) = W5 := ⟨_, rfl⟩
                  have HUB0 := hid (show Blk W5 U [.int .i64 3, .int .i64 q2, .int .i64 0, .string ⟨#[]⟩, .string ⟨#[]⟩, .slice none 0 0, .bool true] 48 by rw [← hW5]; exact HU4.out.set 6 _)
                  have HS5 := hid (show Sx w0 W5 xb mb s q2 m2 ys tv1 by
                    rw [← hW5]
                    refine HS4.out.apt (L := [U]) ((Only.refl [U] W4).set (p := ⟨U, 6, none⟩) (.inl (by simp)) _) (by simp; omega) (by simp; omega) (fun b hb hm => ?_) (fun b hb hm => ?_) (fun b hm => ?_)
                    · have h1 := HTV.out b hb
                      simp at hm; omega
                    · have h1 := HCB.out b hb
                      simp at hm; omega
                    · simp at hm
                      subst hm
                      exact HFR.out)
                  rw [hW5]
                  clear hW5 b6 f6
                  refine (HTK.out _ HS5.out).mono ?_
                  rintro e w5 ⟨rfl, hsu, hol⟩
                  have HSU5 := hid hsu
                  have HUB := hid (hol.blk HUB0.out (by simp; omega))
                  clear hsu hol
                  have HWT := hid (want_u HSU5.out 62 (by decide))
                  obtain ⟨o5, ho5⟩ : ∃ o5 : O Unit, bindO s (fo s m2 q2 (word 70 [47])) (word 70 [62]) = o5 := ⟨_, rfl⟩
                  have HEO : Hid (fo s m2 q2 (endP q2) = mapO (fun _ => (⟨3, q2, 0, [], [], true, []⟩ : Tk)) o5) := hid (by rw [← ho5]; exact HEO0.out)
                  rw [ho5] at HWT
                  clear ho5
                  go_wp2_with fail
                  refine HWT.out.mono ?_
                  rintro e w6 ⟨rfl, hsu, hol⟩
                  have HSU6 := hid hsu
                  have HU6 := hid (hol.blk HUB.out (by simp; omega))
                  clear hsu hol
                  have b0 := HU6.out.cell 0
                  have b1 := HU6.out.cell 1
                  have b2 := HU6.out.cell 2
                  have b3 := HU6.out.cell 3
                  have b4 := HU6.out.cell 4
                  have b5 := HU6.out.cell 5
                  have b6 := HU6.out.cell 6
                  simp only [List.getElem?_cons_zero, List.getElem?_cons_succ] at b0 b1 b2 b3 b4 b5 b6
                  go_wp2_with fail
                  refine (put_u HSU6.out 3 q2 ⟨#[]⟩ ⟨#[]⟩ true [] (fun mm x qq h1 => by
                    have h2 := HEO.out
                    rw [h1] at h2
                    have h3 := fo_gt HS2.out.ru.why (goes_end q2) h2
                    have h4 := HS2.out.len
                    exact ⟨by omega, rfl⟩)).mono ?_
                  rintro e w7 ⟨rfl, hpx⟩
                  have HRES : Hid (NX w0 w7 xb mb s o q 0) := hid (by
                    have h2 : PX w0 w7 xb mb s ys (finT (fo s m2 q2 (endP q2))) := by
                      rw [HEO.out]
                      exact hpx
                    have h3 := h2.next HS2.out HCLO.out (kd := 3) (fun l t n h => end_kd h) (fun t n h => goes_end q2 _ _ _ h)
                    rcases h3 with ⟨q3, zs, m3, tv3, g1, g2, g3⟩ | h3
                    · exact .inl ⟨q3, zs, m3, tv3, g1, g2, by have := HQ.out; have := HGE.out; omega⟩
                    · exact .inr h3)
                  clear hpx
                  go_wp2
                  exact bodyPost_ret (v := .tuple #[]) (results_none (fn := Tryd.f58) rfl _ _ _) rfl ⟨rfl, HRES.out⟩
                · rw [decide_eq_false h47] at HIS
                  have HEO0 := hid (end_plain HS2.out.ru.rs.ok HS2.out.ru.why h47)
                  clear h47
                  refine (HIS.out _ HS3.out.ru).mono ?_
                  rintro e w4 ⟨rfl, n4, rfl⟩
                  obtain ⟨W4, hW4⟩ : ∃ W4, W3.drewN n4 = W4 := ⟨_, rfl⟩
                  have HS4 := hid (show Sx w0 W4 xb mb s q2 m2 ys tv1 by rw [← hW4]; exact HS3.out.still (only_drewN _ _))
                  have HUB := hid (show Blk W4 U [.int .i64 3, .int .i64 q2, .int .i64 0, .string ⟨#[]⟩, .string ⟨#[]⟩, .slice none 0 0, .bool false] 48 by rw [← hW4]; exact HU3.out.drewN n4)
                  rw [hW4]
                  clear hW4
                  have HWT := hid (want_u (α := Unit) (o := (m2, .ok ((), q2))) HS4.out 62 (by decide))
                  obtain ⟨o5, ho5⟩ : ∃ o5 : O Unit, fo s m2 q2 (word 70 [62]) = o5 := ⟨_, rfl⟩
                  have HEO : Hid (fo s m2 q2 (endP q2) = mapO (fun _ => (⟨3, q2, 0, [], [], false, []⟩ : Tk)) o5) := hid (by rw [← ho5]; exact HEO0.out)
                  rw [show bindO s ((m2, .ok ((), q2)) : O Unit) (word 70 [62]) = o5 from ho5] at HWT
                  clear ho5
                  go_wp2_with fail
                  refine HWT.out.mono ?_
                  rintro e w6 ⟨rfl, hsu, hol⟩
                  have HSU6 := hid hsu
                  have HU6 := hid (hol.blk HUB.out (by simp; omega))
                  clear hsu hol
                  have b0 := HU6.out.cell 0
                  have b1 := HU6.out.cell 1
                  have b2 := HU6.out.cell 2
                  have b3 := HU6.out.cell 3
                  have b4 := HU6.out.cell 4
                  have b5 := HU6.out.cell 5
                  have b6 := HU6.out.cell 6
                  simp only [List.getElem?_cons_zero, List.getElem?_cons_succ] at b0 b1 b2 b3 b4 b5 b6
                  go_wp2_with fail
                  refine (put_u HSU6.out 3 q2 ⟨#[]⟩ ⟨#[]⟩ false [] (fun mm x qq h1 => by
                    have h2 := HEO.out
                    rw [h1] at h2
                    have h3 := fo_gt HS2.out.ru.why (goes_end q2) h2
                    have h4 := HS2.out.len
                    exact ⟨by omega, rfl⟩)).mono ?_
                  rintro e w7 ⟨rfl, hpx⟩
                  have HRES : Hid (NX w0 w7 xb mb s o q 0) := hid (by
                    have h2 : PX w0 w7 xb mb s ys (finT (fo s m2 q2 (endP q2))) := by
                      rw [HEO.out]
                      exact hpx
                    have h3 := h2.next HS2.out HCLO.out (kd := 3) (fun l t n h => end_kd h) (fun t n h => goes_end q2 _ _ _ h)
                    rcases h3 with ⟨q3, zs, m3, tv3, g1, g2, g3⟩ | h3
                    · exact .inl ⟨q3, zs, m3, tv3, g1, g2, by have := HQ.out; have := HGE.out; omega⟩
                    · exact .inr h3)
                  clear hpx
                  go_wp2
                  exact bodyPost_ret (v := .tuple #[]) (results_none (fn := Tryd.f58) rfl _ _ _) rfl ⟨rfl, HRES.out⟩
              · rw [hlet] at HLT
                have HL := hid hlet
                clear hlet
                by_cases hgt : q1 < q2
                · have hgtI : (q1 : Int) < (q2 : Int) := by omega
                  have HAT : Hid (tokA s m2 (ys.map (·.1)) q2 (attP q2) = o) := hid (by
                    rcases HMD.out with ⟨h0, _⟩ | ⟨_, h1⟩
                    · omega
                    · rw [← h1]
                      refine (An_part _ HHD.out (P := attP q2) ?_).symm
                      have h3 := HL.out
                      have h4 : ¬ (b.toNat = 47 ∨ b.toNat = 62) := by
                        unfold isL at h3
                        simp at h3
                        omega
                      unfold part
                      simp [HNB.out, h3, h4])
                  clear hgt
                  go_wp2
                  go_quiet ((first | (go_at_call 51; exact Calls.quiet_of (HMQ.out _)) | (go_at_call 78; exact Calls.quiet_of_same (HBK.out _))))
                  obtain ⟨W1, hW1⟩ : ∃ W1, wr.drewN nq = W1 := ⟨_, rfl⟩
                  have HS1' := hid (show Sx w0 W1 xb mb s q2 m2 ys tv1 by rw [← hW1]; exact HSK.out.still (only_drewN wr nq))
                  rw [hW1]
                  clear hW1 d1 d2 HMQ
                  have d1 : W1.cell? ⟨xb, 1, none⟩ = some (.string s) := HS1'.out.ru.rs.c.cell 1
                  have d2 : W1.cell? ⟨xb, 2, none⟩ = some (.int .i64 (q2 : Int)) := HS1'.out.ru.rs.c.cell 2
                  have HMQ := hid (fun n => more_c (HS1'.out.ru.still (only_drewN W1 n)).rs)
                  simp only [Bool.not_false, Bool.true_and] at HMQ
                  rw [decide_eq_true hqs] at HMQ
                  go_wp2
                  go_quiet ((first | (go_at_call 51; exact Calls.quiet_of (HMQ.out _)) | (go_at_call 75; exact Calls.quiet_of_same (HLT.out _))))
                  obtain ⟨W2, hW2⟩ : ∃ W2, W1.drewN nq = W2 := ⟨_, rfl⟩
                  have HS2 := hid (show Sx w0 W2 xb mb s q2 m2 ys tv1 by rw [← hW2]; exact HS1'.out.still (only_drewN W1 nq))
                  rw [hW2]
                  clear hW2 d1 d2 HMQ
                  go_wp2_with fail
                  refine (attrx_c HS2.out).mono ?_
                  rintro e w5 ⟨rfl, hpx⟩
                  have HNX2 := hid (show NX w0 w5 xb mb s o q2 1 from hpx.next HS2.out HAT.out (kd := 2) (fun l t n h => att_kd h) (fun t n h => goes_att q2 _ _ _ h))
                  clear hpx
                  go_wp2
                  go_roundw
                  case rel =>
                    rcases HNX2.out with ⟨q3, zs, m3, tv3, g1, g2, g3⟩ | h3
                    · exact .inl ⟨q3, zs, m3, tv3, g1, g2, by have := HQ.out; have := HGE.out; omega⟩
                    · exact .inr h3
                  case measure =>
                    rw [mR_fine HS1.out.ru]
                    rcases HNX2.out with ⟨q3, zs, m3, tv3, g1, g2, g3⟩ | ⟨m3, F3, g1, g2, g3⟩
                    · rw [mR_fine g1.ru]
                      have h1 := g1.ru.rs.le
                      have h2 := HGE.out
                      omega
                    · rw [mR_wrong g2]; omega
                · have hgtI : ¬ (q1 : Int) < (q2 : Int) := by omega
                  have HCLO : Hid (tokA s m2 (ys.map (·.1)) q2 (endP q2) = o) := hid (by
                    rw [← HCLOSE.out]
                    rcases HMD.out with ⟨_, h1⟩ | ⟨h0, _⟩
                    · exact h1
                    · omega)
                  clear hgt
                  go_wp2
                  go_quiet ((first | (go_at_call 51; exact Calls.quiet_of (HMQ.out _)) | (go_at_call 78; exact Calls.quiet_of_same (HBK.out _))))
                  obtain ⟨W1, hW1⟩ : ∃ W1, wr.drewN nq = W1 := ⟨_, rfl⟩
                  have HS1' := hid (show Sx w0 W1 xb mb s q2 m2 ys tv1 by rw [← hW1]; exact HSK.out.still (only_drewN wr nq))
                  rw [hW1]
                  clear hW1 d1 d2 HMQ
                  have d1 : W1.cell? ⟨xb, 1, none⟩ = some (.string s) := HS1'.out.ru.rs.c.cell 1
                  have d2 : W1.cell? ⟨xb, 2, none⟩ = some (.int .i64 (q2 : Int)) := HS1'.out.ru.rs.c.cell 2
                  have HMQ := hid (fun n => more_c (HS1'.out.ru.still (only_drewN W1 n)).rs)
                  simp only [Bool.not_false, Bool.true_and] at HMQ
                  rw [decide_eq_true hqs] at HMQ
                  go_wp2
                  go_quiet ((first | (go_at_call 51; exact Calls.quiet_of (HMQ.out _)) | (go_at_call 75; exact Calls.quiet_of_same (HLT.out _))))
                  obtain ⟨W2, hW2⟩ : ∃ W2, W1.drewN nq = W2 := ⟨_, rfl⟩
                  have HS2 := hid (show Sx w0 W2 xb mb s q2 m2 ys tv1 by rw [← hW2]; exact HS1'.out.still (only_drewN W1 nq))
                  rw [hW2]
                  clear hW2 d1 d2 HMQ
                  have c2 : W2.cell? ⟨xb, 2, none⟩ = some (.int .i64 q2) := HS2.out.ru.rs.c.cell 2
                  have HTV := hid (fun b hb => (row_ge HS2.out.tl.row b hb).2)
                  have HCB := hid (show ∀ b ∈ cbs ys, b < W2.heap.size from fun b hb => by
                    obtain ⟨x, hx, hxb⟩ := mem_cbs.1 hb
                    exact (row_ge (HS2.out.tl.rel x hx).ch b hxb).2)
                  have HFR := hid HS2.out.fr.size
                  have hltU := HS2.out.ru.rs.c.lt
                  have hltUm := HS2.out.ru.rs.mt.lt
                  have HIS := hid (fun W (h : RU W xb mb s q2 tv1 m2) => is_c h.rs 47 (by decide))
                  simp only [Bool.not_false, Bool.true_and] at HIS
                  go_wp2_with fail
                  obtain ⟨W3, hW3⟩ : ∃ W3, W2.alloc (.cells #[.int .i64 3, .int .i64 q2, .int .i64 0, .string ⟨#[]⟩, .string ⟨#[]⟩, .slice none 0 0, .bool false] 48) = W3 := ⟨_, rfl⟩
                  have HS3 := hid (show Sx w0 W3 xb mb s q2 m2 ys tv1 by rw [← hW3]; exact HS2.out.still ((Only.refl [] W2).alloc _))
                  obtain ⟨U, hU⟩ : ∃ U, W2.heap.size = U := ⟨_, rfl⟩
                  have HU3 := hid (show Blk W3 U [.int .i64 3, .int .i64 q2, .int .i64 0, .string ⟨#[]⟩, .string ⟨#[]⟩, .slice none 0 0, .bool false] 48 by rw [← hW3, ← hU]; exact Blk.new W2 #[.int .i64 3, .int .i64 q2, .int .i64 0, .string ⟨#[]⟩, .string ⟨#[]⟩, .slice none 0 0, .bool false] 48 rfl)
                  rw [hU] at HTV HCB HFR hltU hltUm
                  rw [hW3, hU]
                  clear hW3 hU c2
                  by_cases h47 : (rest s q2).head? = some 47
                  · rw [decide_eq_true h47] at HIS
                    have hq2 : q2 < s.size := by
                      rcases HS2.out.ru.nil_or with ⟨g, -⟩ | ⟨-, g⟩
                      · exact g
                      · rw [g] at h47; cases h47
                    have HEO0 := hid (end_slash HS2.out.ru.rs.ok HS2.out.ru.why h47)
                    have HTK := hid (fun W (hs : Sx w0 W xb mb s q2 m2 ys tv1) => take_u hs h47)
                    clear h47
                    refine (HIS.out _ HS3.out.ru).mono ?_
                    rintro e w4 ⟨rfl, n4, rfl⟩
                    obtain ⟨W4, hW4⟩ : ∃ W4, W3.drewN n4 = W4 := ⟨_, rfl⟩
                    have HS4 := hid (show Sx w0 W4 xb mb s q2 m2 ys tv1 by rw [← hW4]; exact HS3.out.still (only_drewN _ _))
                    have HU4 := hid (show Blk W4 U [.int .i64 3, .int .i64 q2, .int .i64 0, .string ⟨#[]⟩, .string ⟨#[]⟩, .slice none 0 0, .bool false] 48 by rw [← hW4]; exact HU3.out.drewN n4)
                    rw [hW4]
                    clear hW4
                    have b6 := HU4.out.cell 6
                    have f6 := HU4.out.froz 6
                    simp only [List.getElem?_cons_zero, List.getElem?_cons_succ] at b6
                    go_wp2_with fail
                    obtain ⟨W5, hW5⟩ : ∃ W5, W4.setCell ⟨U, 6, none⟩ (.bool true) = W5 := ⟨_, rfl⟩
                    have HUB0 := hid (show Blk W5 U [.int .i64 3, .int .i64 q2, .int .i64 0, .string ⟨#[]⟩, .string ⟨#[]⟩, .slice none 0 0, .bool true] 48 by rw [← hW5]; exact HU4.out.set 6 _)
                    have HS5 := hid (show Sx w0 W5 xb mb s q2 m2 ys tv1 by
                      rw [← hW5]
                      refine HS4.out.apt (L := [U]) ((Only.refl [U] W4).set (p := ⟨U, 6, none⟩) (.inl (by simp)) _) (by simp; omega) (by simp; omega) (fun b hb hm => ?_) (fun b hb hm => ?_) (fun b hm => ?_)
                      · have h1 := HTV.out b hb
                        simp at hm; omega
                      · have h1 := HCB.out b hb
                        simp at hm; omega
                      · simp at hm
                        subst hm
                        exact HFR.out)
                    rw [hW5]
                    clear hW5 b6 f6
                    refine (HTK.out _ HS5.out).mono ?_
                    rintro e w5 ⟨rfl, hsu, hol⟩
                    have HSU5 := hid hsu
                    have HUB := hid (hol.blk HUB0.out (by simp; omega))
                    clear hsu hol
                    have HWT := hid (want_u HSU5.out 62 (by decide))
                    obtain ⟨o5, ho5⟩ : ∃ o5 : O Unit, bindO s (fo s m2 q2 (word 70 [47])) (word 70 [62]) = o5 := ⟨_, rfl⟩
                    have HEO : Hid (fo s m2 q2 (endP q2) = mapO (fun _ => (⟨3, q2, 0, [], [], true, []⟩ : Tk)) o5) := hid (by rw [← ho5]; exact HEO0.out)
                    rw [ho5] at HWT
                    clear ho5
                    go_wp2_with fail
                    refine HWT.out.mono ?_
                    rintro e w6 ⟨rfl, hsu, hol⟩
                    have HSU6 := hid hsu
                    have HU6 := hid (hol.blk HUB.out (by simp; omega))
                    clear hsu hol
                    have b0 := HU6.out.cell 0
                    have b1 := HU6.out.cell 1
                    have b2 := HU6.out.cell 2
                    have b3 := HU6.out.cell 3
                    have b4 := HU6.out.cell 4
                    have b5 := HU6.out.cell 5
                    have b6 := HU6.out.cell 6
                    simp only [List.getElem?_cons_zero, List.getElem?_cons_succ] at b0 b1 b2 b3 b4 b5 b6
                    go_wp2_with fail
                    refine (put_u HSU6.out 3 q2 ⟨#[]⟩ ⟨#[]⟩ true [] (fun mm x qq h1 => by
                      have h2 := HEO.out
                      rw [h1] at h2
                      have h3 := fo_gt HS2.out.ru.why (goes_end q2) h2
                      have h4 := HS2.out.len
                      exact ⟨by omega, rfl⟩)).mono ?_
                    rintro e w7 ⟨rfl, hpx⟩
                    have HRES : Hid (NX w0 w7 xb mb s o q 0) := hid (by
                      have h2 : PX w0 w7 xb mb s ys (finT (fo s m2 q2 (endP q2))) := by
                        rw [HEO.out]
                        exact hpx
                      have h3 := h2.next HS2.out HCLO.out (kd := 3) (fun l t n h => end_kd h) (fun t n h => goes_end q2 _ _ _ h)
                      rcases h3 with ⟨q3, zs, m3, tv3, g1, g2, g3⟩ | h3
                      · exact .inl ⟨q3, zs, m3, tv3, g1, g2, by have := HQ.out; have := HGE.out; omega⟩
                      · exact .inr h3)
                    clear hpx
                    go_wp2
                    exact bodyPost_ret (v := .tuple #[]) (results_none (fn := Tryd.f58) rfl _ _ _) rfl ⟨rfl, HRES.out⟩
                  · rw [decide_eq_false h47] at HIS
                    have HEO0 := hid (end_plain HS2.out.ru.rs.ok HS2.out.ru.why h47)
                    clear h47
                    refine (HIS.out _ HS3.out.ru).mono ?_
                    rintro e w4 ⟨rfl, n4, rfl⟩
                    obtain ⟨W4, hW4⟩ : ∃ W4, W3.drewN n4 = W4 := ⟨_, rfl⟩
                    have HS4 := hid (show Sx w0 W4 xb mb s q2 m2 ys tv1 by rw [← hW4]; exact HS3.out.still (only_drewN _ _))
                    have HUB := hid (show Blk W4 U [.int .i64 3, .int .i64 q2, .int .i64 0, .string ⟨#[]⟩, .string ⟨#[]⟩, .slice none 0 0, .bool false] 48 by rw [← hW4]; exact HU3.out.drewN n4)
                    rw [hW4]
                    clear hW4
                    have HWT := hid (want_u (α := Unit) (o := (m2, .ok ((), q2))) HS4.out 62 (by decide))
                    obtain ⟨o5, ho5⟩ : ∃ o5 : O Unit, fo s m2 q2 (word 70 [62]) = o5 := ⟨_, rfl⟩
                    have HEO : Hid (fo s m2 q2 (endP q2) = mapO (fun _ => (⟨3, q2, 0, [], [], false, []⟩ : Tk)) o5) := hid (by rw [← ho5]; exact HEO0.out)
                    rw [show bindO s ((m2, .ok ((), q2)) : O Unit) (word 70 [62]) = o5 from ho5] at HWT
                    clear ho5
                    go_wp2_with fail
                    refine HWT.out.mono ?_
                    rintro e w6 ⟨rfl, hsu, hol⟩
                    have HSU6 := hid hsu
                    have HU6 := hid (hol.blk HUB.out (by simp; omega))
                    clear hsu hol
                    have b0 := HU6.out.cell 0
                    have b1 := HU6.out.cell 1
                    have b2 := HU6.out.cell 2
                    have b3 := HU6.out.cell 3
                    have b4 := HU6.out.cell 4
                    have b5 := HU6.out.cell 5
                    have b6 := HU6.out.cell 6
                    simp only [List.getElem?_cons_zero, List.getElem?_cons_succ] at b0 b1 b2 b3 b4 b5 b6
                    go_wp2_with fail
                    refine (put_u HSU6.out 3 q2 ⟨#[]⟩ ⟨#[]⟩ false [] (fun mm x qq h1 => by
                      have h2 := HEO.out
                      rw [h1] at h2
                      have h3 := fo_gt HS2.out.ru.why (goes_end q2) h2
                      have h4 := HS2.out.len
                      exact ⟨by omega, rfl⟩)).mono ?_
                    rintro e w7 ⟨rfl, hpx⟩
                    have HRES : Hid (NX w0 w7 xb mb s o q 0) := hid (by
                      have h2 : PX w0 w7 xb mb s ys (finT (fo s m2 q2 (endP q2))) := by
                        rw [HEO.out]
                        exact hpx
                      have h3 := h2.next HS2.out HCLO.out (kd := 3) (fun l t n h => end_kd h) (fun t n h => goes_end q2 _ _ _ h)
                      rcases h3 with ⟨q3, zs, m3, tv3, g1, g2, g3⟩ | h3
                      · exact .inl ⟨q3, zs, m3, tv3, g1, g2, by have := HQ.out; have := HGE.out; omega⟩
                      · exact .inr h3)
                    clear hpx
                    go_wp2
                    exact bodyPost_ret (v := .tuple #[]) (results_none (fn := Tryd.f58) rfl _ _ _) rfl ⟨rfl, HRES.out⟩
            · rw [hbk] at HBK
              have HNEXT : Hid (o = if m2.stepOk 1 = true then An s (m2.step 1) (ys.map (·.1)) 2 (q2 + 1) else (m2.step 1, .error (20, 0))) := hid (by
                rcases HMD.out with ⟨_, h1⟩ | ⟨_, h1⟩
                · rw [← h1]
                  exact An_skip HSK.out.ru.why _ HHD.out (by unfold part; simp [hbk])
                · rw [← h1]
                  exact An_skip HSK.out.ru.why _ HHD.out (by unfold part; simp [hbk]))
              clear hbk
              go_wp2
              go_quiet ((first | (go_at_call 51; exact Calls.quiet_of (HMQ.out _)) | (go_at_call 78; exact Calls.quiet_of_same (HBK.out _))))
              obtain ⟨W1, hW1⟩ : ∃ W1, wr.drewN nq = W1 := ⟨_, rfl⟩
              have HS1' := hid (show Sx w0 W1 xb mb s q2 m2 ys tv1 by rw [← hW1]; exact HSK.out.still (only_drewN wr nq))
              rw [hW1]
              clear hW1 d1 d2
              go_wp2_with fail
              refine (take_c HS1'.out.ru hqs).mono ?_
              rintro e w5 ⟨rfl, h1, h2, hol⟩
              have H1 := hid h1
              have H2 := hid h2
              have HOL := hid hol
              clear h1 h2 hol
              go_wp2
              go_roundw
              case rel =>
                rcases hst : m2.stepOk 1 with _ | _
                · exact .inr ⟨_, _, (by rw [HNEXT.out, hst]; rfl), H2.out hst, HS1'.out.off HOL.out⟩
                · exact .inl ⟨q2 + 1, m2.step 1, HS1'.out.on (H1.out hst) HOL.out (by omega), by have := HGE.out; omega, .inr ⟨by have := HGE.out; omega, by rw [HNEXT.out, if_pos hst]⟩⟩
              case measure =>
                rw [mR_fine HSK.out.ru]
                rcases hst : m2.stepOk 1 with _ | _
                · rw [mR_wrong (H2.out hst)]; omega
                · rw [mR_fine (H1.out hst)]; omega
          · have hqs' : ¬ q2 < s.size := by omega
            have HHD := hid hh
            clear hh hqs
            have hqs := hqs'
            rw [decide_eq_false hqs] at HMQ
            have HCLO : Hid (tokA s m2 (ys.map (·.1)) q2 (endP q2) = o) := hid (by
              rw [← An_close _ (fun c hc => by rw [HHD.out] at hc; cases hc)]
              rcases HMD.out with ⟨_, h1⟩ | ⟨_, h1⟩
              · exact h1
              · rw [← h1]
                unfold An
                rw [GS_two (by rw [HHD.out]; rfl)])
            go_wp2
            go_quiet ((first | (go_at_call 51; exact Calls.quiet_of (HMQ.out _))))
            obtain ⟨W1, hW1⟩ : ∃ W1, wr.drewN nq = W1 := ⟨_, rfl⟩
            have HS1' := hid (show Sx w0 W1 xb mb s q2 m2 ys tv1 by rw [← hW1]; exact HSK.out.still (only_drewN wr nq))
            rw [hW1]
            clear hW1 d1 d2 HMQ
            have d1 : W1.cell? ⟨xb, 1, none⟩ = some (.string s) := HS1'.out.ru.rs.c.cell 1
            have d2 : W1.cell? ⟨xb, 2, none⟩ = some (.int .i64 (q2 : Int)) := HS1'.out.ru.rs.c.cell 2
            have HMQ := hid (fun n => more_c (HS1'.out.ru.still (only_drewN W1 n)).rs)
            simp only [Bool.not_false, Bool.true_and] at HMQ
            rw [decide_eq_false hqs] at HMQ
            go_wp2
            go_quiet ((first | (go_at_call 51; exact Calls.quiet_of (HMQ.out _))))
            obtain ⟨W2, hW2⟩ : ∃ W2, W1.drewN nq = W2 := ⟨_, rfl⟩
            have HS2 := hid (show Sx w0 W2 xb mb s q2 m2 ys tv1 by rw [← hW2]; exact HS1'.out.still (only_drewN W1 nq))
            rw [hW2]
            clear hW2 d1 d2 HMQ
            have c2 : W2.cell? ⟨xb, 2, none⟩ = some (.int .i64 q2) := HS2.out.ru.rs.c.cell 2
            have HTV := hid (fun b hb => (row_ge HS2.out.tl.row b hb).2)
            have HCB := hid (show ∀ b ∈ cbs ys, b < W2.heap.size from fun b hb => by
              obtain ⟨x, hx, hxb⟩ := mem_cbs.1 hb
              exact (row_ge (HS2.out.tl.rel x hx).ch b hxb).2)
            have HFR := hid HS2.out.fr.size
            have hltU := HS2.out.ru.rs.c.lt
            have hltUm := HS2.out.ru.rs.mt.lt
            have HIS := hid (fun W (h : RU W xb mb s q2 tv1 m2) => is_c h.rs 47 (by decide))
            simp only [Bool.not_false, Bool.true_and] at HIS
            go_wp2_with fail
            obtain ⟨W3, hW3⟩ : ∃ W3, W2.alloc (.cells #[.int .i64 3, .int .i64 q2, .int .i64 0, .string ⟨#[]⟩, .string ⟨#[]⟩, .slice none 0 0, .bool false] 48) = W3 := ⟨_, rfl⟩
            have HS3 := hid (show Sx w0 W3 xb mb s q2 m2 ys tv1 by rw [← hW3]; exact HS2.out.still ((Only.refl [] W2).alloc _))
            obtain ⟨U, hU⟩ : ∃ U, W2.heap.size = U := ⟨_, rfl⟩
            have HU3 := hid (show Blk W3 U [.int .i64 3, .int .i64 q2, .int .i64 0, .string ⟨#[]⟩, .string ⟨#[]⟩, .slice none 0 0, .bool false] 48 by rw [← hW3, ← hU]; exact Blk.new W2 #[.int .i64 3, .int .i64 q2, .int .i64 0, .string ⟨#[]⟩, .string ⟨#[]⟩, .slice none 0 0, .bool false] 48 rfl)
            rw [hU] at HTV HCB HFR hltU hltUm
            rw [hW3, hU]
            clear hW3 hU c2
            have h47 : ¬ (rest s q2).head? = some 47 := by rw [HHD.out]; intro e; cases e
            rw [decide_eq_false h47] at HIS
            have HEO0 := hid (end_plain HS2.out.ru.rs.ok HS2.out.ru.why h47)
            clear h47
            refine (HIS.out _ HS3.out.ru).mono ?_
            rintro e w4 ⟨rfl, n4, rfl⟩
            obtain ⟨W4, hW4⟩ : ∃ W4, W3.drewN n4 = W4 := ⟨_, rfl⟩
            have HS4 := hid (show Sx w0 W4 xb mb s q2 m2 ys tv1 by rw [← hW4]; exact HS3.out.still (only_drewN _ _))
            have HUB := hid (show Blk W4 U [.int .i64 3, .int .i64 q2, .int .i64 0, .string ⟨#[]⟩, .string ⟨#[]⟩, .slice none 0 0, .bool false] 48 by rw [← hW4]; exact HU3.out.drewN n4)
            rw [hW4]
            clear hW4
            have HWT := hid (want_u (α := Unit) (o := (m2, .ok ((), q2))) HS4.out 62 (by decide))
            obtain ⟨o5, ho5⟩ : ∃ o5 : O Unit, fo s m2 q2 (word 70 [62]) = o5 := ⟨_, rfl⟩
            have HEO : Hid (fo s m2 q2 (endP q2) = mapO (fun _ => (⟨3, q2, 0, [], [], false, []⟩ : Tk)) o5) := hid (by rw [← ho5]; exact HEO0.out)
            rw [show bindO s ((m2, .ok ((), q2)) : O Unit) (word 70 [62]) = o5 from ho5] at HWT
            clear ho5
            go_wp2_with fail
            refine HWT.out.mono ?_
            rintro e w6 ⟨rfl, hsu, hol⟩
            have HSU6 := hid hsu
            have HU6 := hid (hol.blk HUB.out (by simp; omega))
            clear hsu hol
            have b0 := HU6.out.cell 0
            have b1 := HU6.out.cell 1
            have b2 := HU6.out.cell 2
            have b3 := HU6.out.cell 3
            have b4 := HU6.out.cell 4
            have b5 := HU6.out.cell 5
            have b6 := HU6.out.cell 6
            simp only [List.getElem?_cons_zero, List.getElem?_cons_succ] at b0 b1 b2 b3 b4 b5 b6
            go_wp2_with fail
            refine (put_u HSU6.out 3 q2 ⟨#[]⟩ ⟨#[]⟩ false [] (fun mm x qq h1 => by
              have h2 := HEO.out
              rw [h1] at h2
              have h3 := fo_gt HS2.out.ru.why (goes_end q2) h2
              have h4 := HS2.out.len
              exact ⟨by omega, rfl⟩)).mono ?_
            rintro e w7 ⟨rfl, hpx⟩
            have HRES : Hid (NX w0 w7 xb mb s o q 0) := hid (by
              have h2 : PX w0 w7 xb mb s ys (finT (fo s m2 q2 (endP q2))) := by
                rw [HEO.out]
                exact hpx
              have h3 := h2.next HS2.out HCLO.out (kd := 3) (fun l t n h => end_kd h) (fun t n h => goes_end q2 _ _ _ h)
              rcases h3 with ⟨q3, zs, m3, tv3, g1, g2, g3⟩ | h3
              · exact .inl ⟨q3, zs, m3, tv3, g1, g2, by have := HQ.out; have := HGE.out; omega⟩
              · exact .inr h3)
            clear hpx
            go_wp2
            exact bodyPost_ret (v := .tuple #[]) (results_none (fn := Tryd.f58) rfl _ _ _) rfl ⟨rfl, HRES.out⟩
        · have HOO := hid hoo
          obtain ⟨pp, vv, hxx⟩ := hx
          have HXX := hid hxx
          have HWO := hid hwo
          have HMQ := hid (fun W (h : RS W xb mb s pp vv F true m2) => more_c h)
          have HIQ := hid (fun W (h : RS W xb mb s pp vv F true m2) => is_c h 47 (by decide))
          simp only [Bool.not_true, Bool.false_and] at HMQ HIQ
          clear hoo hwo hxx c2 c6
          go_wp2
          go_quiet ((first | (go_at_call 51; exact Calls.quiet_of (HMQ.out _ (HXX.out.still (only_drewN wr _))))))
          obtain ⟨W1, hW1⟩ : ∃ W1, wr.drewN nq = W1 := ⟨_, rfl⟩
          have HX1 := hid (show RS W1 xb mb s pp vv F true m2 by rw [← hW1]; exact HXX.out.still (only_drewN wr nq))
          have HW1 := hid (show Only [mb] w0 W1 by rw [← hW1]; exact HWO.out.drewN nq)
          rw [hW1]
          clear hW1
          go_wp2
          go_quiet ((first | (go_at_call 51; exact Calls.quiet_of (HMQ.out _ (HX1.out.still (only_drewN W1 _))))))
          obtain ⟨W2, hW2⟩ : ∃ W2, W1.drewN nq = W2 := ⟨_, rfl⟩
          have HX2 := hid (show RS W2 xb mb s pp vv F true m2 by rw [← hW2]; exact HX1.out.still (only_drewN W1 nq))
          have HW2 := hid (show Only [mb] w0 W2 by rw [← hW2]; exact HW1.out.drewN nq)
          rw [hW2]
          clear hW2
          have c2 : W2.cell? ⟨xb, 2, none⟩ = some (.int .i64 pp) := HX2.out.c.cell 2
          go_wp2_with fail
          obtain ⟨W3, hW3⟩ : ∃ W3, W2.alloc (.cells #[.int .i64 3, .int .i64 pp, .int .i64 0, .string ⟨#[]⟩, .string ⟨#[]⟩, .slice none 0 0, .bool false] 48) = W3 := ⟨_, rfl⟩
          have HX3 := hid (show RS W3 xb mb s pp vv F true m2 by rw [← hW3]; exact HX2.out.still ((Only.refl [] W2).alloc _))
          have HW3 := hid (show Only [mb] w0 W3 by rw [← hW3]; exact HW2.out.alloc _)
          obtain ⟨U, hU⟩ : ∃ U, W2.heap.size = U := ⟨_, rfl⟩
          have HU3 := hid (show Blk W3 U [.int .i64 3, .int .i64 pp, .int .i64 0, .string ⟨#[]⟩, .string ⟨#[]⟩, .slice none 0 0, .bool false] 48 by rw [← hW3, ← hU]; exact Blk.new W2 #[.int .i64 3, .int .i64 pp, .int .i64 0, .string ⟨#[]⟩, .string ⟨#[]⟩, .slice none 0 0, .bool false] 48 rfl)
          rw [hW3, hU]
          clear hW3 hU c2
          refine (HIQ.out _ HX3.out).mono ?_
          rintro e w4 ⟨rfl, n4, rfl⟩
          obtain ⟨W4, hW4⟩ : ∃ W4, W3.drewN n4 = W4 := ⟨_, rfl⟩
          have HX4 := hid (show RS W4 xb mb s pp vv F true m2 by rw [← hW4]; exact HX3.out.still (only_drewN _ _))
          have HW4 := hid (show Only [mb] w0 W4 by rw [← hW4]; exact HW3.out.drewN _)
          have HU4 := hid (show Blk W4 U [.int .i64 3, .int .i64 pp, .int .i64 0, .string ⟨#[]⟩, .string ⟨#[]⟩, .slice none 0 0, .bool false] 48 by rw [← hW4]; exact HU3.out.drewN n4)
          rw [hW4]
          clear hW4
          go_wp2_with fail
          refine (want_no HX4.out 62 (by decide)).mono ?_
          rintro e w5 ⟨rfl, h1⟩
          have HX5 := hid (HX4.out.still h1)
          have HW5 := hid (HW4.out.trans (h1.mono (by simp)))
          have HU5 := hid (h1.blk HU4.out (by simp))
          clear h1
          have b0 := HU5.out.cell 0
          have b1 := HU5.out.cell 1
          have b2 := HU5.out.cell 2
          have b3 := HU5.out.cell 3
          have b4 := HU5.out.cell 4
          have b5 := HU5.out.cell 5
          have b6 := HU5.out.cell 6
          simp only [List.getElem?_cons_zero, List.getElem?_cons_succ] at b0 b1 b2 b3 b4 b5 b6
          go_wp2_with fail
          refine (put_no HX5.out 3 pp 0 ⟨#[]⟩ ⟨#[]⟩ false (.slice none 0 0) ⟨_, _, _, rfl⟩).mono ?_
          rintro e w6 ⟨rfl, h1⟩
          have HRES : Hid (NX w0 w6 xb mb s o q 0) := hid (.inr ⟨m2, F, HOO.out, ⟨pp, vv, HX5.out.still h1⟩, HW5.out.trans (h1.mono (by simp))⟩)
          clear h1
          go_wp2
          exact bodyPost_ret (v := .tuple #[]) (results_none (fn := Tryd.f58) rfl _ _ _) rfl ⟨rfl, HRES.out⟩
    · have HOO := hid hoo
      obtain ⟨pp, vv, hxx⟩ := hx
      have HXX := hid hxx
      have HWO := hid hwo
      have c6 : wr.cell? ⟨xb, 6, none⟩ = some (.bool true) := hxx.c.cell 6
      clear hoo hwo hxx
      go_wp2
      exact bodyPost_end (results_none (fn := Tryd.f58) rfl _ _ _) rfl ⟨rfl, .inr ⟨m1, F, HOO.out, ⟨pp, vv, HXX.out⟩, HWO.out⟩⟩
end Go.Proofs.YthlbbinlkmchjaaDoor
namespace Go.Proofs.YthlbbinlkmchjaaDoor
open Go.RowKit

/-- a name behind an outcome -/
theorem name_v {α : Type} {w0 w : World} {xb mb : Nat} {s : ByteArray} {xs : List (Tk × Tm)} {tv : Value} {o : O α} (h : SU w0 w xb mb s xs tv o) :
    Calls Tryd.prog 55 #[.pointer (some ⟨xb, 0, none⟩)] w fun e w' => ∃ t : ByteArray, e = .returned (.string t) ∧ (∀ m1 nm q1, bindO s o name = (m1, .ok (nm, q1)) → bl t = nm) ∧ SU w0 w' xb mb s xs tv (bindO s o name) ∧ Only [xb, mb] w w' := by
  rcases o with ⟨m, F | ⟨x, p⟩⟩
  · obtain ⟨⟨pp, vv, hx⟩, ho⟩ := h
    refine (nameR_no hx).mono ?_
    rintro e w' ⟨rfl, h1⟩
    exact ⟨_, rfl, fun _ _ _ h => (by cases h), ⟨⟨pp, vv, hx.still h1⟩, ho.trans (h1.mono (by simp))⟩, h1.mono (by simp)⟩
  · exact name_u (show Sx w0 w xb mb s p m xs tv from h)
/-- a byte taken that is there, or a wrong reader -/
theorem take_v {α : Type} {w0 w : World} {xb mb : Nat} {s : ByteArray} {xs : List (Tk × Tm)} {tv : Value} {o : O α} (h : SU w0 w xb mb s xs tv o) {c : Nat} (hh : ∀ m x p, o = (m, .ok (x, p)) → (rest s p).head? = some c) :
    Calls Tryd.prog 53 #[.pointer (some ⟨xb, 0, none⟩)] w fun e w' => e = .returned (.tuple #[]) ∧ SU w0 w' xb mb s xs tv (bindO s o (word 70 [c])) ∧ Only [xb, mb] w w' := by
  rcases o with ⟨m, F | ⟨x, p⟩⟩
  · obtain ⟨⟨pp, vv, hx⟩, ho⟩ := h
    refine (take_no hx).mono ?_
    rintro e w' ⟨rfl, rfl⟩
    exact ⟨rfl, ⟨⟨pp, vv, hx⟩, ho⟩, Only.refl _ _⟩
  · exact take_u (show Sx w0 w xb mb s p m xs tv from h) (hh m x p rfl)
set_option maxRecDepth 100000 in
set_option maxHeartbeats 8000000 in
theorem openx_no {w : World} {xb mb : Nat} {s : ByteArray} {p : Nat} {v : Value} {F : Int × Int} {m : M} (h : RS w xb mb s p v F true m) (at_ : Nat) :
    Calls Tryd.prog 58 #[.pointer (some ⟨xb, 0, none⟩), .int .i64 at_] w fun e w' => e = .returned (.tuple #[]) ∧ RX w' xb mb s m F ∧ Only [] w w' := by
  have HX := hid h
  have hlt := h.c.lt
  clear h
  go_enter Tryd.func58, Tryd.ntmps58
  go_wp2_with fail
  obtain ⟨W0, hW0⟩ : ∃ W0, w.alloc (.cells #[.int .i64 1, .int .i64 at_, .int .i64 0, .string ⟨#[]⟩, .string ⟨#[]⟩, .slice none 0 0, .bool false] 48) = W0 := ⟨_, rfl⟩
  have HT0 := hid (show Blk W0 w.heap.size [.int .i64 1, .int .i64 at_, .int .i64 0, .string ⟨#[]⟩, .string ⟨#[]⟩, .slice none 0 0, .bool false] 48 by rw [← hW0]; exact Blk.new w #[.int .i64 1, .int .i64 at_, .int .i64 0, .string ⟨#[]⟩, .string ⟨#[]⟩, .slice none 0 0, .bool false] 48 rfl)
  have HX0 := hid (show RS W0 xb mb s p v F true m by rw [← hW0]; exact HX.out.still ((Only.refl [] w).alloc _))
  have HO0 := hid (show Only [] w W0 by rw [← hW0]; exact (Only.refl [] w).alloc _)
  rw [hW0]
  clear hW0
  refine (nameR_no HX0.out).mono ?_
  rintro e w1 ⟨rfl, h1⟩
  have HX1 := hid (HX0.out.still h1)
  have HT1 := hid (h1.blk HT0.out (by simp))
  have HO1 := hid (HO0.out.trans h1)
  clear h1
  have b0 := HT1.out.cell 0
  have b1 := HT1.out.cell 1
  have b2 := HT1.out.cell 2
  have b3 := HT1.out.cell 3
  have b4 := HT1.out.cell 4
  have b5 := HT1.out.cell 5
  have b6 := HT1.out.cell 6
  simp only [List.getElem?_cons_zero, List.getElem?_cons_succ] at b0 b1 b2 b3 b4 b5 b6
  have f3 := HT1.out.froz 3
  go_wp2_with fail
  obtain ⟨W2, hW2⟩ : ∃ W2, w1.setCell ⟨w.heap.size, 3, none⟩ (.string ⟨#[]⟩) = W2 := ⟨_, rfl⟩
  have HX2 := hid (show RS W2 xb mb s p v F true m by
    rw [← hW2]
    exact HX1.out.only (L := [w.heap.size]) ((Only.refl [w.heap.size] w1).set (p := ⟨w.heap.size, 3, none⟩) (.inl (by simp)) _) (by simp; omega) (by have := HX.out.mt.lt; simp; omega))
  have HO2 := hid (show Only [] w W2 by rw [← hW2]; exact HO1.out.set (p := ⟨w.heap.size, 3, none⟩) (.inr (Nat.le_refl _)) _)
  rw [hW2]
  clear hW2 b0 b1 b2 b3 b4 b5 b6 f3
  refine (put_no HX2.out 1 at_ 0 ⟨#[]⟩ ⟨#[]⟩ false (.slice none 0 0) ⟨_, _, _, rfl⟩).mono ?_
  rintro e w3 ⟨rfl, h1⟩
  have HX3 := hid (HX2.out.still h1)
  have HO3 := hid (HO2.out.trans h1)
  clear h1
  go_wp2_with fail
  go_loopw [] (fun wr => RS wr xb mb s p v F true m ∧ Only [] w wr) (fun wr => 0)
  case atStart => exact ⟨HX3.out, HO3.out⟩
  case round =>
    obtain ⟨hr, ho⟩ := hrel
    have HR := hid hr
    have HOR := hid ho
    have c6 : wr.cell? ⟨xb, 6, none⟩ = some (.bool true) := hr.c.cell 6
    clear hr ho
    go_wp2
    exact bodyPost_end (results_none (fn := Tryd.f58) rfl _ _ _) rfl ⟨rfl, ⟨p, v, HR.out⟩, HOR.out⟩
end Go.Proofs.YthlbbinlkmchjaaDoor
namespace Go.Proofs.YthlbbinlkmchjaaDoor
open Go.RowKit

theorem tag_ok {s : ByteArray} {m : M} (hw : m.why = 0) {q : Nat} {m2 : M} {q2 : Nat} (h : fo s m q (word 70 [60]) = (m2, .ok ((), q2))) : fo s m q (tagP q) = if (rest s q2).head? = some 47 then fo s m2 q2 (clsP q) else fo s m2 q2 (openP q) := by
  rw [show fo s m q (tagP q) = _ from fo_then_ok hw (fair_word _ _) h, fo_look]
  split <;> rfl
theorem tag_bad {s : ByteArray} {m : M} (hw : m.why = 0) {q : Nat} {m2 : M} {F : Int × Int} (h : fo s m q (word 70 [60]) = (m2, .error F)) : fo s m q (tagP q) = (m2, .error F) := fo_then_bad hw (fair_word _ _) h
theorem tok_ok {s : ByteArray} {m : M} (T : List Tk) (hw : m.why = 0) {q : Nat} {m2 : M} {q2 : Nat} (h : fo s m q (word 70 [60]) = (m2, .ok ((), q2))) :
    ((rest s q2).head? = some 47 → tokA s m T q (tagP q) = tokA s m2 T q2 (clsP q)) ∧ (¬ (rest s q2).head? = some 47 → tokA s m T q (tagP q) = tokA s m2 T q2 (openP q)) := by
  constructor
  · intro h1
    unfold tokA
    rw [tag_ok hw h, if_pos h1]
  · intro h1
    unfold tokA
    rw [tag_ok hw h, if_neg h1]
theorem tok_bad {s : ByteArray} {m : M} (T : List Tk) (hw : m.why = 0) {q : Nat} {m2 : M} {F : Int × Int} (h : fo s m q (word 70 [60]) = (m2, .error F)) : tokA s m T q (tagP q) = (m2, .error F) := by
  unfold tokA
  rw [tag_bad hw h]
  rfl
/-- a closing tag behind its '<' -/
theorem cls_eq {s : ByteArray} {m : M} (hok : m.Ok) (hw : m.why = 0) {q at_ : Nat} (l : List Nat)
    (hl : ∀ m1 nm q1, bindO s (fo s m q (word 70 [47])) name = (m1, .ok (nm, q1)) → l = nm) :
    fo s m q (clsP at_) = mapO (fun _ => (⟨4, at_, 0, l, [], false, []⟩ : Tk)) (bindO s (bindO s (fo s m q (word 70 [47])) name) (word 70 [62])) := by
  rcases h3 : fo s m q (word 70 [47]) with ⟨m3, F | ⟨u, q3⟩⟩
  · rw [show fo s m q (clsP at_) = (m3, .error F) from fo_then_bad hw (fair_word _ _) h3]
    rfl
  have hok3 := fo_mok hok h3
  have hw3 := fo_why hw h3
  rw [show fo s m q (clsP at_) = _ from fo_then_ok hw (fair_word _ _) h3]
  rw [h3] at hl
  show _ = mapO _ (bindO s (fo s m3 q3 name) (word 70 [62]))
  have hl2 : ∀ m1 nm q1, fo s m3 q3 name = (m1, .ok (nm, q1)) → l = nm := hl
  rcases h4 : fo s m3 q3 name with ⟨m4, F | ⟨nm, q4⟩⟩
  · rw [fo_then_bad hw3 fair_name h4]
    rfl
  · rw [fo_then_ok hw3 fair_name h4, hl2 _ _ _ h4]
    exact fo_map (fo_mok hok3 h4) (fo_why hw3 h4) (fair_word _ _) _
/-- the scan goes on at q, or all is told -/
def SR (w0 w : World) (xb mb : Nat) (s : ByteArray) (o : A) : Prop :=
  (∃ q xs m tv, Sx w0 w xb mb s q m xs tv ∧ An s m (xs.map (·.1)) 0 q = o) ∨ (∃ m1 F, o = (m1, .error F) ∧ RX w xb mb s m1 F ∧ Only [mb] w0 w)
theorem NX.sr {w0 w : World} {xb mb : Nat} {s : ByteArray} {o : A} {q0 : Nat} (h : NX w0 w xb mb s o q0 0) : SR w0 w xb mb s o := by
  rcases h with ⟨q, xs, m, tv, h1, h2, _⟩ | h
  · exact .inl ⟨q, xs, m, tv, h1, h2⟩
  · exact .inr h
theorem NX.less {w0 w : World} {xb mb : Nat} {s : ByteArray} {o : A} {q0 md : Nat} (h : NX w0 w xb mb s o q0 md) (hq : q0 < s.size) : mR s xb w < 1 + (s.size - q0) := by
  rcases h with ⟨q, xs, m, tv, h1, _, h3⟩ | ⟨m1, F, _, h2, _⟩
  · rw [mR_fine h1.ru]
    have := h1.ru.rs.le
    omega
  · rw [mR_wrong h2]
    omega
end Go.Proofs.YthlbbinlkmchjaaDoor
namespace Go.Proofs.YthlbbinlkmchjaaDoor
open Go.RowKit

/-- what the reference's Scan answers: the tokens, or the fault -/
def RefPost (w0 w' : World) (mb : Nat) (o : A) (e : Ending) : Prop :=
  ∃ tv xs F, e = .returned (.tuple #[tv, .agg #[.int .i64 F.1, .int .i64 F.2]]) ∧ TL w' w0.heap.size tv xs ∧ Blk w' mb o.1.rcells 84 ∧ o.1.Ok ∧ Only [mb] w0 w' ∧
    (match o.2 with
      | .ok T => xs.map (·.1) = T ∧ F = (0, 0)
      | .error F' => xs = [] ∧ F = F' ∧ tv = nilS)
theorem bind_ge {s : ByteArray} {m : M} {q : Nat} {m1 : M} {x : Unit} {p : Nat} (hw : m.why = 0) (h : bindO s (bindO s (fo s m q (word 70 [47])) name) (word 70 [62]) = (m1, .ok (x, p))) : q + 1 ≤ p := by
  rcases h1 : fo s m q (word 70 [47]) with ⟨m2, F | ⟨x2, q2⟩⟩
  · rw [h1] at h; cases h
  · rw [h1] at h
    have g1 := fo_gt hw (goes_word _ _ _) h1
    have hw2 := fo_why hw h1
    rcases h2 : fo s m2 q2 name with ⟨m3, F | ⟨x3, q3⟩⟩
    · have : bindO s ((m2, .ok (x2, q2)) : O Unit) name = (m3, .error F) := h2
      rw [this] at h; cases h
    · have e : bindO s ((m2, .ok (x2, q2)) : O Unit) name = (m3, .ok (x3, q3)) := h2
      rw [e] at h
      have g2 := fo_ge hw2 h2
      have hw3 := fo_why hw2 h2
      have g3 := fo_ge hw3 (show fo s m3 q3 (word 70 [62]) = (m1, .ok (x, p)) from h)
      omega

set_option maxRecDepth 100000 in
set_option maxHeartbeats 16000000 in
theorem scanR_c {w0 : World} {mb : Nat} {s : ByteArray} {m : M} (hm : Blk w0 mb m.rcells 84) (hok : m.Ok) (hw : m.why = 0) (hs : s.size ≤ 4294967296) :
    Calls Tryd.prog 31 #[.pointer (some ⟨mb, 0, none⟩), .string s] w0 fun e w' => RefPost w0 w' mb (An s m [] 0 0) e := by
  have hlt := hm.lt
  have HMB := hid hm
  have HLT := hid hlt
  obtain ⟨o, ho⟩ : ∃ o, An s m [] 0 0 = o := ⟨_, rfl⟩
  rw [ho]
  have HO := hid ho
  clear ho hm hlt
  go_enter Tryd.func31, Tryd.ntmps31
  go_wp2_with fail
  obtain ⟨W5, hW5⟩ : ∃ W5, w0.alloc (.cells #[.int .i64 0, .int .i64 0] 35) = W5 := ⟨_, rfl⟩
  obtain ⟨rb, hrb⟩ : ∃ rb, w0.heap.size = rb := ⟨_, rfl⟩
  obtain ⟨xb, hxb⟩ : ∃ xb, rb + 1 = xb := ⟨_, rfl⟩
  obtain ⟨W6, hW6⟩ : ∃ W6, W5.alloc (.cells #[.pointer (some ⟨mb, 0, none⟩), .string s, .int .i64 0, .slice none 0 0, .int .i64 0, .int .i64 0, .bool false] 89) = W6 := ⟨_, rfl⟩
  have hsz5 : W5.heap.size = xb := by rw [← hW5, ← hxb, ← hrb]; simp
  have HSC := hid (show Sx W5 W6 xb mb s 0 m [] (.slice none 0 0) by
    rw [← hW6]
    refine ⟨⟨⟨?_, ?_, hok, by omega, hs⟩, hw⟩, ⟨World.ownsRow_nil _ _ _ _, fun x hx => (by cases hx), List.nodup_nil⟩, (Only.refl _ _).alloc _, by omega, by simp⟩
    · exact Blk.new _ _ 89 hsz5
    · rw [← hW5]; exact (HMB.out.alloc _).alloc _)
  have HB5 := hid (show Blk W5 rb [.int .i64 0, .int .i64 0] 35 by rw [← hW5]; exact Blk.new w0 #[.int .i64 0, .int .i64 0] 35 hrb)
  have HO5 := hid (show Only [] w0 W5 by rw [← hW5]; exact (Only.refl [] w0).alloc _)
  have HRB := hid hrb
  have HXB := hid (show rb < xb ∧ mb < rb ∧ W5.heap.size = xb by have := HLT.out; omega)
  rw [hW5, hW6, hrb, hxb]
  clear hW5 hW6 hrb hxb hsz5
  go_loopw [] (fun wr => SR W5 wr xb mb s o) (fun wr => mR s xb wr)
  case atStart => exact .inl ⟨0, [], m, _, HSC.out, HO.out⟩
  case round =>
    rcases hrel with ⟨q, xs, m', tv, hs, hoo⟩ | ⟨m1, F, hoo, hx, hwo⟩
    · have HSK := hid hs
      have HOO := hid hoo
      have HM := hid (more_c hs.ru.rs)
      simp only [Bool.not_false, Bool.true_and] at HM
      clear hs hoo
      rcases HSK.out.ru.nil_or with ⟨hqs, hh⟩ | ⟨hqs, hh⟩
      · have hqI : (q : Int) < (s.size : Int) := by omega
        obtain ⟨b, hb⟩ : ∃ b, s[q]'hqs = b := ⟨_, rfl⟩
        rw [hb] at hh
        rw [decide_eq_true hqs] at HM
        have HHD := hid hh
        clear hh
        go_wp2_with fail
        refine HM.out.mono ?_
        rintro e w2 ⟨rfl, n2, rfl⟩
        obtain ⟨W2, hW2⟩ : ∃ W2, wr.drewN n2 = W2 := ⟨_, rfl⟩
        have HS2 := hid (show Sx W5 W2 xb mb s q m' xs tv by rw [← hW2]; exact HSK.out.still (only_drewN _ _))
        rw [hW2]
        clear hW2
        have c1 : W2.cell? ⟨xb, 1, none⟩ = some (.string s) := HS2.out.ru.rs.c.cell 1
        have c2 : W2.cell? ⟨xb, 2, none⟩ = some (.int .i64 (q : Int)) := HS2.out.ru.rs.c.cell 2
        by_cases h60 : b.toNat = 60
        · have hh60 : (rest s q).head? = some 60 := by rw [HHD.out, h60]
          have HTA : Hid (tokA s m' (xs.map (·.1)) q (tagP q) = o) := hid (by
            rw [← HOO.out]
            refine (An_part _ HHD.out (P := tagP q) ?_).symm
            unfold part
            simp [h60])
          have heI : (b.toNat : Int) = 60 := by omega
          have heB : ((b.toNat : Int) == 60) = true := by simpa using heI
          have heB2 : ((b.toNat : Int) != 60) = false := by simp [heI]
          clear h60 heI
          go_wp2
          go_quiet (fail)
          go_wp2_with fail
          obtain ⟨W3, hW3⟩ : ∃ W3, W2.drewN nq = W3 := ⟨_, rfl⟩
          have HS3 := hid (show Sx W5 W3 xb mb s q m' xs tv by rw [← hW3]; exact HS2.out.still (only_drewN _ _))
          rw [hW3]
          clear hW3 c1 c2
          refine (take_u HS3.out hh60).mono ?_
          rintro e w4 ⟨rfl, hsu, hol⟩
          rcases hf : fo s m' q (word 70 [60]) with ⟨m2, F | ⟨u2, q2⟩⟩
          · rw [hf] at hsu
            have HRX := hid hsu.1
            have HOW := hid hsu.2
            have HOE : Hid (o = (m2, .error F)) := HTA.out.symm.trans (tok_bad _ HSK.out.ru.why hf)
            have HIS := hid (fun (p : Nat) (v : Value) (h : RS w4 xb mb s p v F true m2) => is_c h 47 (by decide))
            obtain ⟨pp, vv, hrs⟩ := HRX.out
            have HRS := hid hrs
            clear hsu hol hf hrs
            go_wp2_with fail
            refine (HIS.out _ _ HRS.out).mono ?_
            rintro e w5 ⟨rfl, n5, rfl⟩
            simp only [Bool.not_true, Bool.false_and]
            go_wp2_with fail
            refine (openx_no (HRS.out.still (only_drewN w4 n5)) q).mono ?_
            rintro e w6 ⟨rfl, hx6, hol6⟩
            have HX6 := hid hx6
            have HO6 := hid (show Only [mb] W5 w6 from (HOW.out.trans ((only_drewN w4 n5).mono (by simp))).trans (hol6.mono (by simp)))
            clear hx6 hol6
            go_wp2
            go_roundw
            case rel => exact .inr ⟨m2, F, HOE.out, HX6.out, HO6.out⟩
            case measure =>
              rw [mR_fine HSK.out.ru, mR_wrong HX6.out]
              omega
          · rw [hf] at hsu
            have HS4 := hid (show Sx W5 w4 xb mb s q2 m2 xs tv from hsu)
            have hq12 := fo_gt HSK.out.ru.why (goes_word 70 60 []) hf
            have HQ12 := hid hq12
            have HTK := hid (tok_ok (xs.map (·.1)) HSK.out.ru.why hf)
            have HIS := hid (is_c HS4.out.ru.rs 47 (by decide))
            simp only [Bool.not_false, Bool.true_and] at HIS
            clear hsu hol hf hq12
            by_cases h47 : (rest s q2).head? = some 47
            · have HTA2 : Hid (tokA s m2 (xs.map (·.1)) q2 (clsP q) = o) := (HTK.out.1 h47).symm.trans HTA.out
              have hq2s : q2 < s.size := by
                rcases HS4.out.ru.nil_or with ⟨g, -⟩ | ⟨-, g⟩
                · exact g
                · rw [g] at h47; cases h47
              have HQ2 := hid (And.intro HQ12.out hq2s)
              have H47 := hid h47
              rw [decide_eq_true h47] at HIS
              clear h47 hq2s
              go_wp2_with fail
              refine HIS.out.mono ?_
              rintro e w5 ⟨rfl, n5, rfl⟩
              go_wp2_with fail
              have hs5 := HS4.out.still (only_drewN w4 n5)
              refine (take_u hs5 H47.out).mono ?_
              rintro e w6 ⟨rfl, hsu6, hol6⟩
              have HSU6 := hid hsu6
              have hlt6 := hol6.size
              have hlx := hs5.ru.rs.c.lt
              have hlm := hs5.ru.rs.mt.lt
              have hcl : ∀ b ∈ cbs xs, b < w6.heap.size := fun b hb => by
                obtain ⟨x, hx, hxb⟩ := mem_cbs.1 hb
                have := (row_ge (hs5.tl.rel x hx).ch b hxb).2
                omega
              have htv : ∀ b, tv.ownBlock = some b → b < w6.heap.size := fun b hb => by
                have := (row_ge hs5.tl.row b hb).2
                omega
              have hfr : W5.heap.size ≤ w6.heap.size := Nat.le_trans hs5.fr.size hlt6
              have HCL := hid hcl
              have HTV := hid htv
              have HFR := hid hfr
              have HLX := hid (show xb < w6.heap.size ∧ mb < w6.heap.size by omega)
              clear hsu6 hol6 hcl htv hfr hlt6 hlx hlm hs5
              go_wp2_with fail
              obtain ⟨bt, hbt⟩ : ∃ bt, w6.heap.size = bt := ⟨_, rfl⟩
              obtain ⟨W7, hW7⟩ : ∃ W7, w6.alloc (.cells #[.int .i64 4, .int .i64 q, .int .i64 0, .string ⟨#[]⟩, .string ⟨#[]⟩, .slice none 0 0, .bool false] 48) = W7 := ⟨_, rfl⟩
              have HT7 := hid (show Blk W7 bt [.int .i64 4, .int .i64 q, .int .i64 0, .string ⟨#[]⟩, .string ⟨#[]⟩, .slice none 0 0, .bool false] 48 by rw [← hW7]; exact Blk.new w6 #[.int .i64 4, .int .i64 q, .int .i64 0, .string ⟨#[]⟩, .string ⟨#[]⟩, .slice none 0 0, .bool false] 48 hbt)
              have HSU7 := hid (show SU W5 W7 xb mb s xs tv (fo s m2 q2 (word 70 [47])) by rw [← hW7]; exact HSU6.out.still ((Only.refl [] w6).alloc _))
              rw [hbt] at HCL HTV HFR HLX
              rw [hW7, hbt]
              clear hW7 hbt
              refine (name_v HSU7.out).mono ?_
              rintro e w8 ⟨t, rfl, ht, hsu8, hol8⟩
              have HTN := hid ht
              have HSU8 := hid hsu8
              have HT8 := hid (hol8.blk HT7.out (by have := HLX.out; simp; omega))
              have b3 := HT8.out.cell 3
              have f3 := HT8.out.froz 3
              simp only [List.getElem?_cons_zero, List.getElem?_cons_succ] at b3
              clear ht hsu8 hol8
              go_wp2_with fail
              obtain ⟨W9, hW9⟩ : ∃ W9, w8.setCell ⟨bt, 3, none⟩ (.string t) = W9 := ⟨_, rfl⟩
              have HT9 := hid (show Blk W9 bt [.int .i64 4, .int .i64 q, .int .i64 0, .string t, .string ⟨#[]⟩, .slice none 0 0, .bool false] 48 by rw [← hW9]; exact HT8.out.set 3 _)
              have HSU9 := hid (show SU W5 W9 xb mb s xs tv (bindO s (fo s m2 q2 (word 70 [47])) name) by
                rw [← hW9]
                refine HSU8.out.apt (L := [bt]) ((Only.refl [bt] _).set (p := ⟨bt, 3, none⟩) (.inl (by simp)) _) (by have := HLX.out; simp; omega) (by have := HLX.out; simp; omega) (fun b hb hm => ?_) (fun b hb hm => ?_) (fun b hm => ?_)
                · have h1 := HTV.out b hb
                  simp at hm; omega
                · have h1 := HCL.out b hb
                  simp at hm; omega
                · simp at hm
                  subst hm
                  exact HFR.out)
              rw [hW9]
              clear hW9 b3 f3
              refine (want_u HSU9.out 62 (by decide)).mono ?_
              rintro e w10 ⟨rfl, hsu10, hol10⟩
              have HSU10 := hid hsu10
              have HT10 := hid (hol10.blk HT9.out (by have := HLX.out; simp; omega))
              have b0 := HT10.out.cell 0
              have b1 := HT10.out.cell 1
              have b2 := HT10.out.cell 2
              have b3 := HT10.out.cell 3
              have b4 := HT10.out.cell 4
              have b5 := HT10.out.cell 5
              have b6 := HT10.out.cell 6
              simp only [List.getElem?_cons_zero, List.getElem?_cons_succ] at b0 b1 b2 b3 b4 b5 b6
              clear hsu10 hol10
              go_wp2_with fail
              refine (put_u HSU10.out 4 q t ⟨#[]⟩ false (bl t) (fun m3 x3 q3 h3 => ?_)).mono ?_
              · have h4 := bind_ge HS4.out.ru.why h3
                have h5 := HS4.out.len
                exact ⟨by omega, rfl⟩
              · rintro e w11 ⟨rfl, hpx⟩
                have HNX := hid (show NX W5 w11 xb mb s o q2 0 by
                  have h2 : PX W5 w11 xb mb s xs (finT (fo s m2 q2 (clsP q))) := by
                    rw [cls_eq HS4.out.ru.rs.ok HS4.out.ru.why (bl t) HTN.out]
                    exact hpx
                  exact h2.next HS4.out HTA2.out (kd := 4) (fun l t n h => cls_kd h) (fun t n h => goes_then (goes_word _ _ _) _ _ _ h))
                clear hpx
                go_wp2
                go_roundw
                case rel => exact HNX.out.sr
                case measure =>
                  rw [mR_fine HSK.out.ru]
                  have h1 := HNX.out.less HQ2.out.2
                  have h2 := HQ2.out.1
                  omega
            · have HTA2 : Hid (tokA s m2 (xs.map (·.1)) q2 (openP q) = o) := (HTK.out.2 h47).symm.trans HTA.out
              rw [decide_eq_false h47] at HIS
              clear h47
              go_wp2_with fail
              refine HIS.out.mono ?_
              rintro e w5 ⟨rfl, n5, rfl⟩
              go_wp2_with fail
              refine (openx_c (HS4.out.still (only_drewN w4 n5)) HTA2.out).mono ?_
              rintro e w6 ⟨rfl, hnx⟩
              have HNX := hid hnx
              clear hnx
              go_wp2
              go_roundw
              case rel => exact HNX.out.sr
              case measure =>
                rw [mR_fine HSK.out.ru]
                have h2 := HQ12.out
                rcases HNX.out with ⟨q3, ys, m3, tv3, h4, _, h6⟩ | ⟨m3, F, _, h4, _⟩
                · rw [mR_fine h4.ru]
                  have := h4.ru.rs.le
                  omega
                · rw [mR_wrong h4]
                  omega
        · have HTX : Hid (tokA s m' (xs.map (·.1)) q (txtP q) = o) := hid (by
            rw [← HOO.out]
            refine (An_part _ HHD.out (P := txtP q) ?_).symm
            unfold part
            simp [h60])
          have HN60 := hid h60
          have heI : ¬ (b.toNat : Int) = 60 := by omega
          have heB : ((b.toNat : Int) == 60) = false := by simpa using heI
          have heB2 : ((b.toNat : Int) != 60) = true := by simpa using heI
          clear h60 heI
          go_wp2
          go_quiet (fail)
          obtain ⟨W3, hW3⟩ : ∃ W3, W2.drewN nq = W3 := ⟨_, rfl⟩
          have HS3 := hid (show Sx W5 W3 xb mb s q m' xs tv by rw [← hW3]; exact HS2.out.still (only_drewN _ _))
          rw [hW3]
          clear hW3 c1 c2
          go_wp2_with fail
          refine (textx_c HS3.out (by rw [HHD.out]; rintro (e | e); cases e; exact HN60.out (Option.some.inj e))).mono ?_
          rintro e w4 ⟨rfl, hpx⟩
          have HNX := hid (show NX W5 w4 xb mb s o q 0 from hpx.next HS3.out HTX.out (kd := 5) (fun l t n h => txt_kd h) (fun t n h => goes_txt HHD.out HN60.out h))
          clear hpx
          go_wp2
          go_roundw
          case rel => exact HNX.out.sr
          case measure =>
            rw [mR_fine HSK.out.ru]
            exact HNX.out.less hqs
      · -- the end
        rw [decide_eq_false (by omega)] at HM
        have hle := HSK.out.ru.rs.le
        have HOT : Hid (o = (m', .ok (xs.map (·.1)))) := HOO.out.symm.trans (An_end HSK.out.ru.rs.ok HSK.out.ru.why _ hh (by omega))
        clear hle
        go_wp2_with fail
        refine HM.out.mono ?_
        rintro e w2 ⟨rfl, n2, rfl⟩
        obtain ⟨W2, hW2⟩ : ∃ W2, wr.drewN n2 = W2 := ⟨_, rfl⟩
        have H1 := hid (show Sx W5 W2 xb mb s q m' xs tv by rw [← hW2]; exact HSK.out.still (only_drewN _ _))
        rw [hW2]
        clear hW2
        have hk5 := H1.out.fr.blk HB5.out (by have := HXB.out; simp; omega)
        have HK5 := hid hk5
        have f0 := hk5.froz 0
        have f1 := hk5.froz 1
        have e0 := hk5.cell 0
        have e1 := hk5.cell 1
        simp only [List.getElem?_cons_zero, List.getElem?_cons_succ] at e0 e1
        have c3 : W2.cell? ⟨xb, 3, none⟩ = some tv := H1.out.ru.rs.c.cell 3
        have c6 : W2.cell? ⟨xb, 6, none⟩ = some (.bool false) := H1.out.ru.rs.c.cell 6
        clear hk5
        go_wp2_with fail
        have hB2 := (HK5.out.set 0 (.int .i64 0)).set 1 (.int .i64 0)
        have g0 := hB2.cell 0
        have g1 := hB2.cell 1
        simp only [List.set_cons_zero, List.set_cons_succ, List.getElem?_cons_zero, List.getElem?_cons_succ] at g0 g1
        have hOn : Only [rb] W2 ((W2.setCell ⟨rb, 0, none⟩ (.int .i64 0)).setCell ⟨rb, 1, none⟩ (.int .i64 0)) := ((Only.refl _ _).set (p := ⟨rb, 0, none⟩) (.inl (by simp)) _).set (p := ⟨rb, 1, none⟩) (.inl (by simp)) _
        refine bodyPost_ret (v := .tuple #[tv, .agg #[.int .i64 0, .int .i64 0]]) ?_ rfl ⟨tv, xs, (0, 0), rfl, ?_, ?_, ?_, ?_, ?_⟩
        · simp [results, Tryd.f31, go_sem, g0, g1]
        · refine (H1.out.tl.only hOn (fun b hb hm => ?_) (fun b hb hm => ?_)).base (by have h1 := HXB.out; have h2 := HRB.out; omega)
          · have h2 := (row_ge H1.out.tl.row b hb).1
            have h3 := HXB.out
            simp at hm; omega
          · obtain ⟨x, hx, hxb⟩ := mem_cbs.1 hb
            have h2 := (row_ge (H1.out.tl.rel x hx).ch b hxb).1
            have h3 := HXB.out
            simp at hm; omega
        · rw [HOT.out]
          exact hOn.blk H1.out.ru.rs.mt (by have := HXB.out; simp; omega)
        · rw [HOT.out]; exact H1.out.ru.rs.ok
        · exact (((Only.behind HO5.out H1.out.fr).set (p := ⟨rb, 0, none⟩) (.inr (by have := HRB.out; simp; omega)) _).set (p := ⟨rb, 1, none⟩) (.inr (by have := HRB.out; simp; omega)) _)
        · rw [HOT.out]; exact ⟨rfl, rfl⟩
    · -- wrong
      obtain ⟨pp, vv, hrs⟩ := hx
      have HRS := hid hrs
      have HOE := hid hoo
      have HWO := hid hwo
      have HM := hid (more_c hrs)
      simp only [Bool.not_true, Bool.false_and] at HM
      clear hrs hoo hwo
      go_wp2_with fail
      refine HM.out.mono ?_
      rintro e w2 ⟨rfl, n2, rfl⟩
      obtain ⟨W2, hW2⟩ : ∃ W2, wr.drewN n2 = W2 := ⟨_, rfl⟩
      have H1 := hid (show RS W2 xb mb s pp vv F true m1 by rw [← hW2]; exact HRS.out.still (only_drewN _ _))
      have H3 := hid (show Only [mb] W5 W2 by rw [← hW2]; exact HWO.out.trans ((only_drewN wr n2).mono (by simp)))
      rw [hW2]
      clear hW2
      have hk5 := H3.out.blk HB5.out (by have := HXB.out; simp; omega)
      have HK5 := hid hk5
      have f0 := hk5.froz 0
      have f1 := hk5.froz 1
      have e0 := hk5.cell 0
      have e1 := hk5.cell 1
      simp only [List.getElem?_cons_zero, List.getElem?_cons_succ] at e0 e1
      have c4 : W2.cell? ⟨xb, 4, none⟩ = some (.int .i64 F.1) := H1.out.c.cell 4
      have c5 : W2.cell? ⟨xb, 5, none⟩ = some (.int .i64 F.2) := H1.out.c.cell 5
      have c6 : W2.cell? ⟨xb, 6, none⟩ = some (.bool true) := H1.out.c.cell 6
      clear hk5
      go_wp2_with fail
      go_region
      go_wp2_with fail
      have hB2 := ((HK5.out.set 0 (.int .i64 F.1)).set 1 (.int .i64 F.2)).drew
      have g0 := hB2.cell 0
      have g1 := hB2.cell 1
      simp only [List.set_cons_zero, List.set_cons_succ, List.getElem?_cons_zero, List.getElem?_cons_succ] at g0 g1
      have hOn : Only [rb] W2 ((W2.setCell ⟨rb, 0, none⟩ (.int .i64 F.1)).setCell ⟨rb, 1, none⟩ (.int .i64 F.2)).drew := (((Only.refl _ _).set (p := ⟨rb, 0, none⟩) (.inl (by simp)) _).set (p := ⟨rb, 1, none⟩) (.inl (by simp)) _).drew
      refine bodyPost_ret (v := .tuple #[nilS, .agg #[.int .i64 F.1, .int .i64 F.2]]) ?_ rfl ⟨nilS, [], F, rfl, ?_, ?_, ?_, ?_, ?_⟩
      · simp [results, Tryd.f31, go_sem, g0, g1, nilS]
      · exact ⟨World.ownsRow_nil _ _ _ _, fun x hx => (by cases hx), List.nodup_nil⟩
      · rw [HOE.out]
        exact hOn.blk H1.out.mt (by have := HXB.out; simp; omega)
      · rw [HOE.out]; exact H1.out.ok
      · exact (((Only.behind HO5.out H3.out).set (p := ⟨rb, 0, none⟩) (.inr (by have := HRB.out; simp; omega)) _).set (p := ⟨rb, 1, none⟩) (.inr (by have := HRB.out; simp; omega)) _).drew
      · rw [HOE.out]; exact ⟨rfl, rfl, rfl⟩
end Go.Proofs.YthlbbinlkmchjaaDoor
