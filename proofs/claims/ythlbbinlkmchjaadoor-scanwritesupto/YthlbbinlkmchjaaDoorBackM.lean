/- What Text and Value wrote is read back: as mathematics. -/
import Derived.Test.YthlbbinlkmchjaaDoorText
import Derived.Test.YthlbbinlkmchjaaDoorEncsAll
namespace Go.Proofs.YthlbbinlkmchjaaDoor
open Go.RowKit

theorem wrt_cases (r : Nat) : ((∀ e ∈ ents, e.1 ≠ r) ∧ wrt r = enc r) ∨ ∃ e ∈ ents, r = e.1 ∧ wrt r = 38 :: e.2 := by
  by_cases h : ∀ e ∈ ents, e.1 ≠ r
  · exact .inl ⟨h, wrt_none h⟩
  · refine .inr ?_
    simp only [ents, List.mem_cons, List.not_mem_nil, or_false, forall_eq_or_imp, forall_eq, ne_eq] at h
    have : r = 60 ∨ r = 62 ∨ r = 38 ∨ r = 34 ∨ r = 173 ∨ r = 160 := by omega
    rcases this with rfl | rfl | rfl | rfl | rfl | rfl
    · exact ⟨(60, [108, 116, 59]), by decide, rfl, rfl⟩
    · exact ⟨(62, [103, 116, 59]), by decide, rfl, rfl⟩
    · exact ⟨(38, [97, 109, 112, 59]), by decide, rfl, rfl⟩
    · exact ⟨(34, [113, 117, 111, 116, 59]), by decide, rfl, rfl⟩
    · exact ⟨(173, [115, 104, 121, 59]), by decide, rfl, rfl⟩
    · exact ⟨(160, [110, 98, 115, 112, 59]), by decide, rfl, rfl⟩
theorem chr_wrt {r : Nat} (h : isRune r = true) (m : List Nat) : chrP (wrt r ++ m) = .ok (r, (wrt r).length) := by
  rcases wrt_cases r with ⟨h1, h2⟩ | ⟨e, he, rfl, h2⟩
  · rw [h2]
    exact chr_enc h (fun e => h1 (38, [97, 109, 112, 59]) (by decide) e.symm) m
  · rw [h2, chr_ent he, List.length_cons, Nat.add_comm]
theorem wrt_head {r : Nat} (h : isRune r = true) : ∃ b l, wrt r = b :: l ∧ b ≠ 60 ∧ b ≠ 34 := by
  rcases wrt_cases r with ⟨h1, h2⟩ | ⟨e, he, rfl, h2⟩
  · obtain ⟨b, l, e, hb⟩ := enc_head h
    refine ⟨b, l, h2.trans e, fun q => ?_, fun q => ?_⟩
    · exact h1 (60, [108, 116, 59]) (by decide) (by have := hb (by omega); simp only; omega)
    · exact h1 (34, [113, 117, 111, 116, 59]) (by decide) (by have := hb (by omega); simp only; omega)
  · exact ⟨38, e.2, h2, by decide, by decide⟩
theorem chr_tx {r : Nat} (h : isRune r = true) (m : List Nat) : chrP (tx r ++ m) = .ok (r, (tx r).length) := by
  unfold tx
  split
  · rename_i e
    subst e
    exact chr_enc (r := 34) h (by decide) m
  · exact chr_wrt h m
theorem tx_head {r : Nat} (h : isRune r = true) : ∃ b l, tx r = b :: l ∧ b ≠ 60 := by
  unfold tx
  split
  · exact ⟨34, [], rfl, by decide⟩
  · obtain ⟨b, l, e, h1, -⟩ := wrt_head h
    exact ⟨b, l, e, h1⟩
theorem chs_tx : ∀ (rs : List Nat) (f p : Nat), (∀ x ∈ rs, isRune x = true) → (rs.flatMap tx).length < f → ∃ xs, chsK f p (rs.flatMap tx) = .ok (xs, (rs.flatMap tx).length) ∧ xs.map (·.1) = rs
  | _, 0, _, _, h => absurd h (Nat.not_lt_zero _)
  | [], f + 1, p, _, _ => ⟨[], rfl, rfl⟩
  | r :: rs, f + 1, p, h, hf => by
    have hr := h r (by simp)
    obtain ⟨b, l, hb, hne⟩ := tx_head hr
    have h1 := (tx_len r).1
    rw [List.flatMap_cons, List.length_append] at hf
    obtain ⟨ys, h2, h3⟩ := chs_tx rs f (p + (tx r).length) (fun x hx => h x (List.mem_cons_of_mem _ hx)) (by omega)
    refine ⟨(r, p, p + (tx r).length) :: ys, ?_, by simp [h3]⟩
    rw [List.flatMap_cons, List.length_append]
    unfold chsK look
    dsimp only
    rw [if_neg (by rw [hb]; simp [hne]), then_ok (chr_tx hr _), List.drop_left, then_ok h2]
    rfl
theorem val_wrt : ∀ (rs : List Nat) (k : Nat) (m : List Nat), (∀ x ∈ rs, isRune x = true) → rs.length ≤ k → valK k (rs.flatMap wrt ++ 34 :: m) = .ok (rs, (rs.flatMap wrt).length)
  | [], 0, m, _, _ => rfl
  | [], k + 1, m, _, _ => rfl
  | r :: rs, 0, m, _, h => by simp at h
  | r :: rs, k + 1, m, h, hk => by
    have hr := h r (by simp)
    obtain ⟨b, l, hb, hne, hne2⟩ := wrt_head hr
    rw [List.flatMap_cons, List.length_append, List.append_assoc]
    unfold valK look
    dsimp only
    rw [if_neg (by rw [hb]; simp [hne2]), if_neg (by rw [hb]; simp [hne]), then_ok (chr_wrt hr _), List.drop_left, then_ok (val_wrt rs k m (fun x hx => h x (List.mem_cons_of_mem _ hx)) (by simpa using hk))]
    rfl
theorem rest_nil {s : ByteArray} {p : Nat} (h : s.size ≤ p) : (rest s p).head? = none := by
  rw [rest_head, List.getElem?_eq_none (by rw [bl_length]; exact h)]
/-- a text is read as its runes -/
theorem text_back {s : ByteArray} {rs : List Nat} (hb : bl s = rs.flatMap tx) (h : ∀ x ∈ rs, isRune x = true) (hne : rs ≠ []) : ∃ xs, GS s 0 0 = ([⟨5, 0, s.size, [], [], false, xs⟩], none) ∧ xs.map (·.1) = rs ∧ Cs 0 xs s.size := by
  obtain ⟨r, rs', rfl⟩ := List.exists_cons_of_ne_nil hne
  obtain ⟨b, l, hbl, hn⟩ := tx_head (h r (by simp))
  have h0 : rest s 0 = (r :: rs').flatMap tx := hb
  have hh : (rest s 0).head? = some b := by rw [h0, List.flatMap_cons, hbl]; rfl
  have hP : part 0 0 b = some (txtP 0) := by unfold part; rw [if_pos rfl, if_neg hn]
  have hl : s.size = ((r :: rs').flatMap tx).length := by rw [← bl_length, hb]
  obtain ⟨xs, h1, h2⟩ := chs_tx (r :: rs') (((r :: rs').flatMap tx).length + 1) 0 h (Nat.lt_succ_self _)
  have h3 : txtP 0 (rest s 0) = .ok (⟨5, 0, 0, [], [], false, xs⟩, s.size) := by
    rw [h0]
    unfold txtP
    rw [then_ok h1, hl]
    rfl
  refine ⟨xs, ?_, h2, ?_⟩
  · rw [GS_part hh hP, h3, tokR_ok, Nat.zero_add]
    show ((_ :: (GS s 0 s.size).1), (GS s 0 s.size).2) = _
    rw [GS_nil0 (rest_nil (Nat.le_refl _))]
  · have := (txt_kind h3).2.2
    rwa [Nat.zero_add] at this
/-- none is read as none -/
theorem none_back {s : ByteArray} (hb : bl s = []) : GS s 0 0 = ([], none) := GS_nil0 (by show (bl s).head? = none; rw [hb]; rfl)
/-- a value is read as what it was -/
theorem value_back {s : ByteArray} {rs : List Nat} (hb : bl s = [60, 97, 32, 98, 61, 34] ++ rs.flatMap wrt ++ [34, 47, 62]) (h : ∀ x ∈ rs, isRune x = true) (hk : rs.length ≤ 256) :
    ∃ a b c, GS s 0 0 = ([⟨1, 0, 2, [97], [], false, []⟩, ⟨2, 3, a, [98], rs.flatMap enc, false, []⟩, ⟨3, b, c, [], [], true, []⟩], none) := by
  obtain ⟨W, hW⟩ : ∃ W, rs.flatMap wrt = W := ⟨_, rfl⟩
  have hv := val_wrt rs 256 [47, 62] h hk
  rw [hW] at hb hv
  have h0 : rest s 0 = 60 :: 97 :: 32 :: 98 :: 61 :: 34 :: (W ++ [34, 47, 62]) := by show bl s = _; rw [hb]; simp
  have hlen : s.size = 9 + W.length := by rw [← bl_length, hb]; simp; omega
  have h2 : rest s 2 = 32 :: 98 :: 61 :: 34 :: (W ++ [34, 47, 62]) := by have := rest_drop s 0 2; rw [h0] at this; exact this.symm
  have h3 : rest s 3 = 98 :: 61 :: 34 :: (W ++ [34, 47, 62]) := by have := rest_drop s 0 3; rw [h0] at this; exact this.symm
  have h6 : rest s (3 + (4 + W.length)) = [47, 62] := by
    have := rest_drop s 3 (4 + W.length)
    rw [h3] at this
    rw [← this, show 4 + W.length = W.length + 1 + 3 by omega]
    show (W ++ [34, 47, 62]).drop (W.length + 1) = _
    rw [← List.drop_drop, List.drop_left]; rfl
  have t1 : tagP 0 (rest s 0) = .ok (⟨1, 0, 0, [97], [], false, []⟩, 2) := by rw [h0]; rfl
  have t2 : attP 3 (rest s 3) = .ok (⟨2, 3, 0, [98], rs.flatMap enc, false, []⟩, 4 + W.length) := by
    rw [h3]
    unfold attP
    rw [then_ok (name_b _)]
    show (andThen (word 70 [61, 34]) _ (61 :: 34 :: (W ++ [34, 47, 62]))).up 1 = _
    rw [then_ok (show word 70 [61, 34] (61 :: 34 :: (W ++ [34, 47, 62])) = .ok ((), 2) from rfl)]
    show ((andThen (valK 256) _ (W ++ [34, 47, 62])).up 2).up 1 = _
    rw [then_ok hv, List.drop_left]
    rw [then_ok (show word 70 [34] [34, 47, 62] = .ok ((), 1) from rfl)]
    simp only [R.up, done, Except.ok.injEq, Prod.mk.injEq, true_and]
    omega
  have t3 : ∀ p, endP p [47, 62] = .ok (⟨3, p, 0, [], [], true, []⟩, 2) := fun p => rfl
  refine ⟨3 + (4 + W.length), 3 + (4 + W.length), 3 + (4 + W.length) + 2, ?_⟩
  rw [GS_part (b := 60) (by rw [h0]; rfl) (show part 0 0 60 = some (tagP 0) from rfl), t1, tokR_ok]
  show (_ :: (GS s 1 2).1, (GS s 1 2).2) = _
  rw [GS_skip (b := 32) (by rw [h2]; rfl) (show part 1 2 32 = none from rfl)]
  rw [GS_part (b := 98) (by rw [h3]; rfl) (show part 2 3 98 = some (attP 3) from rfl), t2, tokR_ok]
  show (_ :: _ :: (GS s 1 (3 + (4 + W.length))).1, (GS s 1 (3 + (4 + W.length))).2) = _
  rw [GS_part (b := 47) (by rw [h6]; rfl) (show part 1 _ 47 = some (endP _) from rfl), h6, t3, tokR_ok]
  show (_ :: _ :: _ :: (GS s 0 (3 + (4 + W.length) + 2)).1, (GS s 0 (3 + (4 + W.length) + 2)).2) = _
  rw [GS_nil0 (rest_nil (by omega))]
end Go.Proofs.YthlbbinlkmchjaaDoor
