/- take: the pairs into the table's map, up to the first one that may not be. -/
import Derived.Test.YtdinlaoimpoolaaAreAll
import Derived.Test.YtdinlaoimpoolaaMaps
import Derived.Test.YtdinlaoimpoolaaQuiet
namespace Go.Proofs.Ytdinlaoimpoolaa
open Go.RowKit Go.MapKept
open Go.ChangeMaps (setBlock)

def ltP (p q : Pr) : Prop := p.1 < q.1 ∨ (p.1 = q.1 ∧ p.2.1 < q.2.1)
theorem ord_lt (p q : Pr) : ordI p q < 0 ↔ ltP p q := by
  unfold ordI orI cmpI ltP
  by_cases h1 : p.1 < q.1
  · simp [h1]
  · by_cases h2 : q.1 < p.1
    · simp [h1, h2]; omega
    · have e : p.1 = q.1 := by omega
      by_cases h3 : p.2.1 < q.2.1
      · simp [h3, e]
      · by_cases h4 : q.2.1 < p.2.1 <;> simp [h3, h4, e]
theorem ltP_trans {p q r : Pr} (h : ltP p q) (k : ltP q r) : ltP p r := by unfold ltP at *; omega
theorem ltP_ne {p q : Pr} (h : ltP p q) : ¬ (q.1 = p.1 ∧ q.2.1 = p.2.1) := by unfold ltP at *; omega
/-- may this pair stand behind that one? -/
def okP (gs : List Gl) (q : Option Pr) (p : Pr) : Bool := pairOK gs p && (match q with
  | none => true
  | some q => decide (ordI q p < 0))
theorem okP_false {gs : List Gl} {q : Option Pr} {p : Pr} (h : pairOK gs p = false) : okP gs q p = false := by unfold okP; rw [h]; rfl
theorem okP_none {gs : List Gl} {q : Option Pr} {p : Pr} (h : pairOK gs p = true) (hq : q = none) : okP gs q p = true := by subst hq; unfold okP; rw [h]; rfl
theorem okP_some {gs : List Gl} {q' : Option Pr} {q p : Pr} {b : Bool} (h : pairOK gs p = true) (hq : q' = some q) (hb : decide (ordI q p < 0) = b) : okP gs q' p = b := by subst hq; subst hb; unfold okP; rw [h]; rfl
def prOK (gs : List Gl) : Option Pr → List Pr → Bool
  | _, [] => true
  | q, p :: ps => okP gs q p && prOK gs (some p) ps
def prev (ps : List Pr) : Nat → Option Pr
  | 0 => none
  | k + 1 => ps[k]?
theorem drop_at {α : Type} {xs : List α} {k : Nat} {x : α} (h : xs[k]? = some x) : xs.drop k = x :: xs.drop (k + 1) := by
  have hl := (List.getElem?_eq_some_iff.1 h).1
  rw [List.drop_eq_getElem_cons hl, (List.getElem?_eq_some_iff.1 h).2]
theorem prOK_drop {gs : List Gl} {q : Option Pr} {ps : List Pr} {k : Nat} {p : Pr} (h : ps[k]? = some p) : prOK gs q (ps.drop k) = (okP gs q p && prOK gs (prev ps (k + 1)) (ps.drop (k + 1))) := by
  rw [drop_at h]
  show _ = (okP gs q p && prOK gs ps[k]? _)
  rw [h]; rfl
theorem take_at {α : Type} {xs : List α} {k : Nat} {x : α} (h : xs[k]? = some x) : xs.take (k + 1) = xs.take k ++ [x] := by
  rw [List.take_add_one, h]; rfl
/-- rising -/
abbrev RiseP (ps : List Pr) : Prop := ps.Pairwise ltP
theorem rise_next {ps : List Pr} {k : Nat} {p : Pr} (h : ps[k]? = some p) (hr : RiseP (ps.take k)) (hq : ∀ q, prev ps k = some q → ltP q p) : (∀ x ∈ ps.take k, ltP x p) ∧ RiseP (ps.take (k + 1)) := by
  have all : ∀ x ∈ ps.take k, ltP x p := by
    cases k with
    | zero => intro x hx; simp at hx
    | succ k =>
      have hk : k < ps.length := by have := (List.getElem?_eq_some_iff.1 h).1; omega
      obtain ⟨q, hq2⟩ := some_at hk
      have hqp := hq q hq2
      rw [take_at hq2] at hr ⊢
      intro x hx
      rcases List.mem_append.1 hx with hx | hx
      · exact ltP_trans ((List.pairwise_append.1 hr).2.2 x hx q (by simp)) hqp
      · rw [List.mem_singleton.1 hx]; exact hqp
  refine ⟨all, ?_⟩
  rw [take_at h]
  exact List.pairwise_append.2 ⟨hr, by simp, fun x hx y hy => by rw [List.mem_singleton.1 hy]; exact all x hx⟩
theorem look_none {ps : List Pr} {p : Pr} (h : ∀ x ∈ ps, ltP x p) : lookP ps p.1 p.2.1 = none := by
  unfold lookP
  rw [List.find?_eq_none]
  intro x hx hc
  simp only [Bool.and_eq_true, decide_eq_true_eq] at hc
  exact ltP_ne (h x hx) hc

theorem undrew {B : Nat} {w w' : World} (h : Below B w.drew w') : Below B w w' := ⟨h.os, h.tape, h.output, h.size, h.block⟩
theorem At.no_map {W : World} {b off m : Nat} {cs : List Value} {ps : List Pr} (h : At W b off cs) (hm : MapAt W m ps) (hc : cs ≠ []) : b ≠ m := by
  intro e; subst e
  cases cs with
  | nil => exact hc rfl
  | cons u cs =>
    have := h.2 0 u rfl
    unfold MapAt at hm
    simp [World.cell?, hm] at this
theorem flat_ne {α : Type} {enc : α → List Value} {k : Nat} (hk : ∀ x, (enc x).length = k) (h0 : 0 < k) {xs : List α} (h : xs.length ≠ 0) : xs.flatMap enc ≠ [] := fun e => by
  have h1 := flat_len hk xs
  rw [e, List.length_nil] at h1
  rcases Nat.mul_eq_zero.1 h1.symm with q | q
  · exact h q
  · omega
theorem Sl.keepMap {α : Type} {enc : α → List Value} {k : Nat} (hk : ∀ x, (enc x).length = k) (h0 : 0 < k) {W W' : World} {ad : Option Addr} {xs : List α} {m : Nat} {ps : List Pr} (h : Sl W ad xs.length (xs.flatMap enc)) (hm : MapAt W m ps) (o : Only [m] W W') : Sl W' ad xs.length (xs.flatMap enc) := fun hne => by
  obtain ⟨b, off, e, ha⟩ := h hne
  exact ⟨b, off, e, ha.keep o (by simp; exact ha.no_map hm (flat_ne hk h0 hne))⟩
theorem TG.keepMap {W W' : World} {a : Nat} {gs : List Gl} {m : Nat} {ps : List Pr} (h : TG W a gs) (hm : MapAt W m ps) (o : Only [m] W W') : TG W' a gs := by
  obtain ⟨em, ad, cap, mv, h1, h2⟩ := h.lies
  have hne : a ≠ m := by
    intro e; subst e
    unfold Blk at h1; unfold MapAt at hm
    rw [hm] at h1; cases h1
  exact ⟨h.rise, h.len, em, ad, cap, mv, o.blk h1 (by simpa using hne), h2.keepMap cg_len (by decide) hm o⟩

set_option maxRecDepth 100000 in
set_option maxHeartbeats 8000000 in
theorem take_any (gs : List Gl) (ps : List Pr) (hu : ∀ g ∈ gs, units g = true) (a m : Nat) (em gl : Value) (ad : Option Addr) (cap : Nat) (w : World) (hT : TG w a gs) (hB : Blk w a [em, gl, .map (some m)] 97) (hm : MapAt w m [])
    (hs : Sl w ad ps.length (ps.flatMap cp)) (hn : ps.length ≤ 2147483647) :
    Calls Try.prog 50 #[.pointer (some ⟨a, 0, none⟩), .slice ad ps.length cap] w fun e w' => e = .returned (.bool (prOK gs none ps)) ∧ (prOK gs none ps = true → MapAt w' m ps ∧ RiseP ps) ∧ Only [m] w w' := by
  have ham : a ≠ m := by
    intro e; subst e
    unfold Blk at hB; unfold MapAt at hm
    rw [hm] at hB; cases hB
  have HA : Hid (∀ W, Only [m] w W → TG W a gs ∧ Blk W a [em, gl, .map (some m)] 97 ∧ Sl W ad ps.length (ps.flatMap cp)) := fun W o =>
    ⟨hT.keepMap hm o, o.blk hB (by simpa using ham), hs.keepMap cp_len (by decide) hm o⟩
  have HM : Hid (MapAt w m []) := hm
  obtain ⟨n, hne⟩ : ∃ n, ps.length = n := ⟨_, rfl⟩
  have HN : Hid (ps.length = n) := hne
  rw [hne] at hn ⊢
  clear hne hs hT hB hm
  go_enter Try.func50, Try.ntmps50
  go_wp2_with fail
  go_loopw [9] (fun vi wr => ∃ (k : Nat), vi = .int .i64 k ∧ k ≤ n ∧ prOK gs none ps = prOK gs (prev ps k) (ps.drop k) ∧ MapAt wr m (ps.take k) ∧ RiseP (ps.take k) ∧ Only [m] w wr) (fun vi _ => n - (RowKit.intOf vi).toNat)
  case atStart => exact ⟨0, rfl, by omega, rfl, HM.out, by simp, Only.refl _ _⟩
  case round =>
    obtain ⟨k, rfl, hk, hpr, hmp, hri, ho⟩ := hrel
    have HO : Hid (Only [m] w wr) := ho
    have HP : Hid (MapAt wr m (ps.take k)) := hmp
    have HR : Hid (RiseP (ps.take k)) := hri
    have HE : Hid (prOK gs none ps = prOK gs (prev ps k) (ps.drop k)) := hpr
    clear ho hmp hri hpr
    by_cases hlt : k < n
    · obtain ⟨p, hp⟩ := some_at (xs := ps) (i := k) (by rw [HN.out]; exact hlt)
      have HS2 : Hid (Sl wr ad ps.length (ps.flatMap cp)) := (HA.out wr HO.out).2.2
      obtain ⟨b, off, rfl, hbl, c0, c1, c2, c3, c4⟩ := HS2.out.pair hp
      have HPP : Hid (ps[k]? = some p) := hp
      have HJ : Hid (∀ W, Below wr.heap.size wr W → Calls Try.prog 65 #[.pointer (some ⟨a, 0, none⟩), .agg (cp p).toArray] W fun e w' => e = .returned (.bool (pairOK gs p)) ∧ Below W.heap.size W w') := fun W h => joins_any gs hu a p W ((HA.out wr HO.out).1.below h)
      have HD := hid (prOK_drop (gs := gs) (q := prev ps k) hp)
      clear hp
      obtain ⟨p0, p1, p2, p3, p4⟩ := p
      simp only [cp] at HJ c0 c1 c2 c3 c4
      have bx := Blk.new wr #[.int .i64 p0, .int .i64 p1, .bool p2, .int .i64 p3, .int .i64 p4] 35 rfl
      have B1 : Below wr.heap.size wr (wr.alloc (.cells #[.int .i64 p0, .int .i64 p1, .bool p2, .int .i64 p3, .int .i64 p4] 35)) := (Below.refl _ wr).alloc (Nat.le_refl _) _
      obtain ⟨W1, hW⟩ : ∃ W, wr.alloc (.cells #[.int .i64 p0, .int .i64 p1, .bool p2, .int .i64 p3, .int .i64 p4] 35) = W := ⟨_, rfl⟩
      have HB1 : Hid (Below wr.heap.size wr W1) := by rw [← hW]; exact B1
      rw [hW] at bx
      have HW : Hid (wr.alloc (.cells #[.int .i64 p0, .int .i64 p1, .bool p2, .int .i64 p3, .int .i64 p4] 35) = W1) := hW
      clear hW
      have x0 : ∀ d os, (behind W1 d os).cell? ⟨wr.heap.size, 0, none⟩ = some (.int .i64 p0) := fun d os => (cell_behind bx.lt d os).trans (bx.cell 0)
      have x1 : ∀ d os, (behind W1 d os).cell? ⟨wr.heap.size, 1, none⟩ = some (.int .i64 p1) := fun d os => (cell_behind bx.lt d os).trans (bx.cell 1)
      have x2 : ∀ d os, (behind W1 d os).cell? ⟨wr.heap.size, 2, none⟩ = some (.bool p2) := fun d os => (cell_behind bx.lt d os).trans (bx.cell 2)
      have x3 : ∀ d os, (behind W1 d os).cell? ⟨wr.heap.size, 3, none⟩ = some (.int .i64 p3) := fun d os => (cell_behind bx.lt d os).trans (bx.cell 3)
      have x4 : ∀ d os, (behind W1 d os).cell? ⟨wr.heap.size, 4, none⟩ = some (.int .i64 p4) := fun d os => (cell_behind bx.lt d os).trans (bx.cell 4)
      have mf : Try.prog.follows .mixedOrders = true := by kernel_rfl
      clear B1 bx
      cases hok : pairOK gs (p0, p1, p2, p3, p4) with
      | false =>
        rw [hok] at HJ
        have HF : Hid (prOK gs none ps = false) := by rw [HE.out, HD.out, okP_false hok]; rfl
        clear hok
        go_wp2_with fail
        rw [HW.out]
        clear HW
        refine wp_region_behind (by assumption) (by kernel_rfl) ?_
        repeat (go_big_quiet_step ((first | (go_at_call 65; refine Calls.behind_of (HJ.out _ ?_); exact HB1.out.trans ((below_behind _ _ _).mono HB1.out.size)))))
        refine wpQuiet_nil ?_
        intro _ hw'
        obtain ⟨⟨dq, osq⟩, hw''⟩ := hw'
        subst hw''
        go_wp2_with fail
        go_ret
        refine ⟨ret_bool HF.out.symm, fun h => (by rw [HF.out] at h; cases h), HO.out.trans ((Only.ofBelow (HB1.out.trans ((below_behind _ _ _).mono HB1.out.size))).mono (by simp))⟩
      | true =>
        rw [hok] at HJ
        have hnext : prev ps k = none ∧ ¬ (0 : Int) < (k : Int) ∨ ∃ (j : Nat) (q : Pr), (k : Int) - 1 = (j : Int) ∧ (0 : Int) < (k : Int) ∧ ps[j]? = some q ∧ prev ps k = some q := by
          cases k with
          | zero => exact .inl ⟨rfl, by omega⟩
          | succ j =>
            obtain ⟨q, hq⟩ := some_at (xs := ps) (i := j) (by rw [HN.out]; omega)
            exact .inr ⟨j, q, by omega, by omega, hq, hq⟩
        rcases hnext with ⟨hpn, hk0⟩ | ⟨j, q, hkj, hk0, hq, hpq⟩
        · have HF : Hid (prOK gs none ps = prOK gs (prev ps (k + 1)) (ps.drop (k + 1))) := by rw [HE.out, HD.out, okP_none hok hpn]; rfl
          have HNX := hid (rise_next HPP.out HR.out (fun q hq => by rw [hpn] at hq; cases hq))
          have hkd : decide (0 < k) = false := decide_eq_false (by omega)
          clear hok hpn
          go_wp2_with fail
          rw [HW.out]
          refine wp_region_behind (by assumption) (by kernel_rfl) ?_
          repeat (go_big_quiet_step ((first | (go_at_call 65; refine Calls.behind_of (HJ.out _ ?_); exact HB1.out.trans ((below_behind _ _ _).mono HB1.out.size)))))
          refine wpQuiet_nil ?_
          intro _ hw'
          obtain ⟨⟨dq, osq⟩, hw''⟩ := hw'
          subst hw''
          go_wp2_with fail
          have HB2 : Hid (Below wr.heap.size wr (behind W1 dq osq)) := HB1.out.trans ((below_behind _ _ _).mono HB1.out.size)
          have y0 := x0 dq osq
          have y1 := x1 dq osq
          have y2 := x2 dq osq
          have y3 := x3 dq osq
          have y4 := x4 dq osq
          generalize behind W1 dq osq = W2 at *
          have ta : W2.cell? ⟨a, 2, none⟩ = some (.map (some m)) := ((HA.out wr HO.out).2.1.below HB2.out).cell 2
          have hmu : MapAt W2.drew m (ps.take k) := HP.out.below HB2.out.drew
          obtain ⟨O, hO⟩ : ∃ O : Obj, Obj.map (ents 0 (ps.take k ++ [(p0, p1, p2, p3, p4)])).toArray (ps.take k ++ [(p0, p1, p2, p3, p4)]).length = O := ⟨_, rfl⟩
          have hup : Sem.run Try.prog (Instr.mapUpdate 95 (.map (some m)) (.agg #[.int .i64 p0, .int .i64 p1]) (.agg #[.int .i64 p0, .int .i64 p1, .bool p2, .int .i64 p3, .int .i64 p4])) W2.drew = .ok () (setBlock W2.drew m O) := by
            rw [← hO]; exact update_run hmu (p0, p1, p2, p3, p4) (look_none HNX.out.1)
          have hset := set_heap W2.drew m O hmu.lt
          have hmb : wr.heap.size ≠ m := by have := HP.out.lt; omega
          have z : ∀ c, (setBlock W2.drew m O).cell? ⟨wr.heap.size, c, none⟩ = W2.cell? ⟨wr.heap.size, c, none⟩ := fun c => World.cell?_of_block (w := W2) (hset.2.1 _ hmb)
          have za : ∀ c, (setBlock W2.drew m O).cell? ⟨a, c, none⟩ = W2.cell? ⟨a, c, none⟩ := fun c => World.cell?_of_block (w := W2) (hset.2.1 _ ham)
          have hS2 := And.intro ((z 0).trans y0) (And.intro ((z 1).trans y1) (And.intro ((z 2).trans y2) (And.intro ((z 3).trans y3) (And.intro ((z 4).trans y4) ((za 2).trans ta)))))
          have HM2 : Hid (MapAt (setBlock W2.drew m O) m (ps.take (k + 1)) ∧ Only [m] w (setBlock W2.drew m O)) := ⟨by rw [take_at HPP.out]; unfold MapAt; rw [hset.1, ← hO], only_set ((HO.out.trans ((Only.ofBelow HB2.out).mono (by simp))).drew) m O hmu.lt (.inl (by simp))⟩
          clear x0 x1 x2 x3 x4 HW hO hset z za hmb hmu
          go_region_held3 (fun W' => W'.cell? ⟨wr.heap.size, 0, none⟩ = some (.int .i64 p0) ∧ W'.cell? ⟨wr.heap.size, 1, none⟩ = some (.int .i64 p1) ∧ W'.cell? ⟨wr.heap.size, 2, none⟩ = some (.bool p2) ∧ W'.cell? ⟨wr.heap.size, 3, none⟩ = some (.int .i64 p3) ∧ W'.cell? ⟨wr.heap.size, 4, none⟩ = some (.int .i64 p4) ∧ W'.cell? ⟨a, 2, none⟩ = some (.map (some m)))
            (first | exact hS2 | exact ⟨y0, y1, y2, y3, y4, ta⟩)
            (fail)
          clear hS2 y0 y1 y2 y3 y4 ta hup
          go_wp2_with fail
          refine ⟨⟨k + 1, by go_num, by omega, HF.out, HM2.out.1, HNX.out.2, HM2.out.2⟩, ?_⟩
          simp [RowKit.intOf]; omega
        · obtain ⟨b2, off2, e2, _, q0, q1, q2, q3, q4⟩ := HS2.out.pair hq
          cases e2
          have qx := fun c v (h : wr.cell? ⟨b, off + j * 5 + c, none⟩ = some v) d os => (cell_behind (w := W1) (by have := HB1.out.size; omega) d os).trans ((HB1.out.cell (p := ⟨b, off + j * 5 + c, none⟩) hbl).trans h)
          have q5 : ∀ d os, (behind W1 d os).cell? ⟨b, off + j * 5, none⟩ = some _ := qx 0 _ q0
          have q6 : ∀ d os, (behind W1 d os).cell? ⟨b, off + j * 5 + 1, none⟩ = some _ := qx 1 _ q1
          have q7 : ∀ d os, (behind W1 d os).cell? ⟨b, off + j * 5 + 2, none⟩ = some _ := qx 2 _ q2
          have q8 : ∀ d os, (behind W1 d os).cell? ⟨b, off + j * 5 + 3, none⟩ = some _ := qx 3 _ q3
          have q9 : ∀ d os, (behind W1 d os).cell? ⟨b, off + j * 5 + 4, none⟩ = some _ := qx 4 _ q4
          have HQ : Hid (prev ps k = some q) := hpq
          have hco := fun W => order_any q (p0, p1, p2, p3, p4) W
          have hjn : (j : Int) < (n : Int) := by omega
          have hj0 : (0 : Int) ≤ (j : Int) := by omega
          have hkd : decide (0 < k) = true := decide_eq_true (by omega)
          have hOD := ord_lt q (p0, p1, p2, p3, p4)
          have HOK : Hid (pairOK gs (p0, p1, p2, p3, p4) = true) := hok
          obtain ⟨o, ho⟩ : ∃ o, ordI q (p0, p1, p2, p3, p4) = o := ⟨_, rfl⟩
          have HOO : Hid (ordI q (p0, p1, p2, p3, p4) = o) := ho
          rw [ho] at hco hOD
          have HOD : Hid (o < 0 ↔ ltP q (p0, p1, p2, p3, p4)) := hOD
          obtain ⟨r0, r1, r2, r3, r4⟩ := q
          simp only [cp] at hco
          simp only at q5 q6 q7 q8 q9
          clear qx q0 q1 q2 q3 q4 ho hOD hok hq hpq
          have HCO : Hid _ := hco
          clear hco
          rcases Int.lt_or_le o 0 with hlo | hlo
          · have HF : Hid (prOK gs none ps = prOK gs (prev ps (k + 1)) (ps.drop (k + 1))) := by rw [HE.out, HD.out, okP_some (b := true) HOK.out HQ.out (by rw [HOO.out]; exact decide_eq_true hlo)]; rfl
            have HNX := hid (rise_next HPP.out HR.out (fun q hq => by rw [HQ.out] at hq; cases hq; exact HOD.out.1 hlo))
            have hlo' : decide (0 ≤ o) = false := decide_eq_false (by omega)
            go_wp2_with fail
            rw [HW.out]
            refine wp_region_behind (by assumption) (by kernel_rfl) ?_
            repeat (go_big_quiet_step ((first | (go_at_call 65; refine Calls.behind_of (HJ.out _ ?_); exact HB1.out.trans ((below_behind _ _ _).mono HB1.out.size)) | (go_at_call 66; refine Calls.behind_of ((HCO.out _).mono fun _ _ h => ⟨h.1, h.2.below⟩)))))
            refine wpQuiet_nil ?_
            intro _ hw'
            obtain ⟨⟨dq, osq⟩, hw''⟩ := hw'
            subst hw''
            go_wp2_with fail
            have HB2 : Hid (Below wr.heap.size wr (behind W1 dq osq)) := HB1.out.trans ((below_behind _ _ _).mono HB1.out.size)
            have y0 := x0 dq osq
            have y1 := x1 dq osq
            have y2 := x2 dq osq
            have y3 := x3 dq osq
            have y4 := x4 dq osq
            generalize behind W1 dq osq = W2 at *
            have ta : W2.cell? ⟨a, 2, none⟩ = some (.map (some m)) := ((HA.out wr HO.out).2.1.below HB2.out).cell 2
            have hmu : MapAt W2.drew m (ps.take k) := HP.out.below HB2.out.drew
            obtain ⟨O, hO⟩ : ∃ O : Obj, Obj.map (ents 0 (ps.take k ++ [(p0, p1, p2, p3, p4)])).toArray (ps.take k ++ [(p0, p1, p2, p3, p4)]).length = O := ⟨_, rfl⟩
            have hup : Sem.run Try.prog (Instr.mapUpdate 95 (.map (some m)) (.agg #[.int .i64 p0, .int .i64 p1]) (.agg #[.int .i64 p0, .int .i64 p1, .bool p2, .int .i64 p3, .int .i64 p4])) W2.drew = .ok () (setBlock W2.drew m O) := by
              rw [← hO]; exact update_run hmu (p0, p1, p2, p3, p4) (look_none HNX.out.1)
            have hset := set_heap W2.drew m O hmu.lt
            have hmb : wr.heap.size ≠ m := by have := HP.out.lt; omega
            have z : ∀ c, (setBlock W2.drew m O).cell? ⟨wr.heap.size, c, none⟩ = W2.cell? ⟨wr.heap.size, c, none⟩ := fun c => World.cell?_of_block (w := W2) (hset.2.1 _ hmb)
            have za : ∀ c, (setBlock W2.drew m O).cell? ⟨a, c, none⟩ = W2.cell? ⟨a, c, none⟩ := fun c => World.cell?_of_block (w := W2) (hset.2.1 _ ham)
            have hS2 := And.intro ((z 0).trans y0) (And.intro ((z 1).trans y1) (And.intro ((z 2).trans y2) (And.intro ((z 3).trans y3) (And.intro ((z 4).trans y4) ((za 2).trans ta)))))
            have HM2 : Hid (MapAt (setBlock W2.drew m O) m (ps.take (k + 1)) ∧ Only [m] w (setBlock W2.drew m O)) := ⟨by rw [take_at HPP.out]; unfold MapAt; rw [hset.1, ← hO], only_set ((HO.out.trans ((Only.ofBelow HB2.out).mono (by simp))).drew) m O hmu.lt (.inl (by simp))⟩
            clear q5 q6 q7 q8 q9 x0 x1 x2 x3 x4 HW hO hset z za hmb hmu
            go_region_held3 (fun W' => W'.cell? ⟨wr.heap.size, 0, none⟩ = some (.int .i64 p0) ∧ W'.cell? ⟨wr.heap.size, 1, none⟩ = some (.int .i64 p1) ∧ W'.cell? ⟨wr.heap.size, 2, none⟩ = some (.bool p2) ∧ W'.cell? ⟨wr.heap.size, 3, none⟩ = some (.int .i64 p3) ∧ W'.cell? ⟨wr.heap.size, 4, none⟩ = some (.int .i64 p4) ∧ W'.cell? ⟨a, 2, none⟩ = some (.map (some m)))
              (first | exact hS2 | exact ⟨y0, y1, y2, y3, y4, ta⟩)
              (fail)
            clear hS2 y0 y1 y2 y3 y4 ta hup
            go_wp2_with fail
            refine ⟨⟨k + 1, by go_num, by omega, HF.out, HM2.out.1, HNX.out.2, HM2.out.2⟩, ?_⟩
            simp [RowKit.intOf]; omega
          · have HF : Hid (prOK gs none ps = false) := by rw [HE.out, HD.out, okP_some (b := false) HOK.out HQ.out (by rw [HOO.out]; exact decide_eq_false (by omega))]; rfl
            have hlo' : decide (0 ≤ o) = true := decide_eq_true hlo
            go_wp2_with fail
            rw [HW.out]
            refine wp_region_behind (by assumption) (by kernel_rfl) ?_
            repeat (go_big_quiet_step ((first | (go_at_call 65; refine Calls.behind_of (HJ.out _ ?_); exact HB1.out.trans ((below_behind _ _ _).mono HB1.out.size)) | (go_at_call 66; refine Calls.behind_of ((HCO.out _).mono fun _ _ h => ⟨h.1, h.2.below⟩)))))
            refine wpQuiet_nil ?_
            intro _ hw'
            obtain ⟨⟨dq, osq⟩, hw''⟩ := hw'
            subst hw''
            go_wp2_with fail
            go_ret
            refine ⟨ret_bool HF.out.symm, fun h => (by rw [HF.out] at h; cases h), HO.out.trans ((Only.ofBelow (HB1.out.trans ((below_behind _ _ _).mono HB1.out.size))).mono (by simp))⟩
    · have hkn : k = n := by omega
      have HF : Hid (prOK gs none ps = true) := by rw [HE.out, List.drop_eq_nil_of_le (by rw [HN.out]; omega)]; rfl
      have HQ : Hid (MapAt wr m ps ∧ RiseP ps) := by
        have := HP.out; have h2 := HR.out
        rw [List.take_of_length_le (by rw [HN.out]; omega)] at this h2
        exact ⟨this, h2⟩
      clear hkn
      go_wp2_with fail
      go_ret
      exact ⟨ret_bool HF.out.symm, fun _ => HQ.out, HO.out⟩
end Go.Proofs.Ytdinlaoimpoolaa
