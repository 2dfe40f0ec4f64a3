/- The cutter's opening, ending, closing, attribute. -/
import Derived.Test.YthlbbinlkmchjaaDoorSc
namespace Go.Proofs.YthlbbinlkmchjaaDoor
open Go.RowKit

def finT (o : O Tk) : O Tk := match o with
  | (m1, .ok x) => if m1.holdOk 1 = true then (m1.hold 1, .ok ({ x.1 with en := x.2 }, x.2)) else (m1.hold 1, .error (21, 0))
  | (m1, .error F) => (m1, .error F)
def PT (w0 w' : World) (cb mb : Nat) (s : ByteArray) (xs : List (Tk × Tm)) (o : O Tk) (e : Ending) : Prop := match o with
  | (m1, .ok x) => e = .returned (.bool true) ∧ ∃ u tv', Sc w0 w' cb mb s x.2 m1 (xs ++ [(x.1, u)]) tv'
  | (m1, .error F) => e = .returned (.bool false) ∧ Cx w' cb mb s m1 F ∧ Only [mb] w0 w'
theorem finT_yes {m1 : M} {t : Tk} {q : Nat} (h : m1.holdOk 1 = true) : finT (m1, .ok (t, q)) = (m1.hold 1, .ok ({ t with en := q }, q)) := if_pos h
theorem finT_no {m1 : M} {t : Tk} {q : Nat} (h : m1.holdOk 1 = false) : finT (m1, .ok (t, q)) = (m1.hold 1, .error (21, 0)) := if_neg (by rw [h]; decide)
def nilS : Value := .slice none 0 0
theorem nil_row (w : World) (B : Nat) : w.ownsRow B 50 3 nilS 0 [] := World.ownsRow_nil _ _ _ _
theorem nil_new {xs : List (Tk × Tm)} : ∀ b, nilS.ownBlock = some b → b ∉ cbs xs := fun b h => by cases h
theorem fo_mok {α : Type} {s : ByteArray} {m : M} (hm : m.Ok) {p : Nat} {P : Pz α} {m1 : M} {r : Except (Int × Int) (α × Nat)} (h : fo s m p P = (m1, r)) : m1.Ok := by
  have := fin_mok hm p (s.size - p) (P (rest s p)); rw [show fin m p (s.size - p) (P (rest s p)) = _ from h] at this; exact this
theorem fo_why {α : Type} {s : ByteArray} {m : M} (hw : m.why = 0) {p : Nat} {P : Pz α} {m1 : M} {x : α × Nat} (h : fo s m p P = (m1, .ok x)) : m1.why = 0 := by
  obtain ⟨_, _, _, _, _, h5⟩ := fin_ok hw (a := x.1) (q := x.2) h; exact h5
theorem fo_ge {α : Type} {s : ByteArray} {m : M} (hw : m.why = 0) {p : Nat} {P : Pz α} {m1 : M} {x : α} {q : Nat} (h : fo s m p P = (m1, .ok (x, q))) : p ≤ q := by
  obtain ⟨_, _, h2, _⟩ := fin_ok hw h; omega
theorem fo_gt {α : Type} {s : ByteArray} {m : M} (hw : m.why = 0) {p : Nat} {P : Pz α} (hg : Goes P) {m1 : M} {x : α} {q : Nat} (h : fo s m p P = (m1, .ok (x, q))) : p + 1 ≤ q := by
  obtain ⟨n, h1, h2, _⟩ := fin_ok hw h; have := hg _ _ _ h1; omega
/-- what is told of a part, and a token of it -/
theorem fo_tok {α : Type} {s : ByteArray} {m : M} (hm : m.Ok) (hw : m.why = 0) {p : Nat} {P : Pz α} (hP : Fair P) (g : α → Tk) {m1 : M} {x : α} {q : Nat} (h : fo s m p P = (m1, .ok (x, q))) :
    fo s m p (andThen P fun a _ => done (g a)) = (m1, .ok (g x, q)) := by
  rw [fo_map hm hw hP g, h]; rfl
theorem fo_tok_bad {α : Type} {s : ByteArray} {m : M} (hm : m.Ok) (hw : m.why = 0) {p : Nat} {P : Pz α} (hP : Fair P) (g : α → Tk) {m1 : M} {F : Int × Int} (h : fo s m p P = (m1, .error F)) :
    fo s m p (andThen P fun a _ => done (g a)) = (m1, .error F) := by
  rw [fo_map hm hw hP g, h]; rfl

def openP (p : Nat) : Pz Tk := andThen name fun nm _ => done ⟨1, p, 0, nm, [], false, []⟩
set_option maxRecDepth 100000 in
set_option maxHeartbeats 4000000 in
theorem opening_c {w0 w : World} {cb mb : Nat} {s : ByteArray} {p : Nat} {m : M} {xs : List (Tk × Tm)} {tv : Value} (h : Sc w0 w cb mb s p m xs tv) (fr : Nat) :
    Calls Tryd.prog 81 #[.pointer (some ⟨cb, 0, none⟩), .int .i64 fr] w fun e w' => PT w0 w' cb mb s xs (finT (fo s m p (openP fr))) e := by
  have HS := hid h
  have HN := hid (name_c h.cu)
  have hok := h.cu.ok
  have hw := h.cu.why
  rcases hn : fo s m p name with ⟨m1, F | ⟨nm, q⟩⟩
  · rw [hn] at HN
    rw [show fo s m p (openP fr) = (m1, .error F) from fo_tok_bad hok hw fair_name _ hn]
    clear hn h hok hw
    go_enter Tryd.func81, Tryd.ntmps81
    go_wp2_with fail
    refine HN.out.mono ?_
    rintro e w1 ⟨⟨⟨z, rfl, rfl⟩, hx⟩, hol⟩
    go_wp2
    go_ret
    exact ⟨rfl, hx, HS.out.off hol⟩
  · have hgt := fo_gt hw goes_name hn
    rw [hn] at HN
    rw [show fo s m p (openP fr) = (m1, .ok (_, q)) from fo_tok hok hw fair_name _ hn]
    clear hn h hok hw
    rcases hh : m1.holdOk 1 with _ | _
    · rw [finT_no hh]
      have HH := hid hh
      clear hh
      go_enter Tryd.func81, Tryd.ntmps81
      go_wp2_with fail
      refine HN.out.mono ?_
      rintro e w1 ⟨⟨⟨z, rfl, t, rfl, ht⟩, hx⟩, hol⟩
      have hs := HS.out.on hx hol (by simp only; omega)
      have HT := hid ((token_s hs ⟨1, fr, 0, nm, [], false, []⟩ ⟨t, ⟨#[]⟩, nilS⟩ ht rfl (nil_row _ _) nil_new (by have := HS.out.len; simp only; omega) 0))
      clear hs hx hol
      go_wp2_with fail
      refine HT.out.mono ?_
      rintro e w2 ⟨-, h2⟩
      obtain ⟨rfl, hx, ho⟩ := h2 HH.out
      go_wp2
      go_ret
      exact ⟨rfl, hx, ho⟩
    · rw [finT_yes hh]
      have HH := hid hh
      clear hh
      go_enter Tryd.func81, Tryd.ntmps81
      go_wp2_with fail
      refine HN.out.mono ?_
      rintro e w1 ⟨⟨⟨z, rfl, t, rfl, ht⟩, hx⟩, hol⟩
      have hs := HS.out.on hx hol (by simp only; omega)
      have HT := hid ((token_s hs ⟨1, fr, 0, nm, [], false, []⟩ ⟨t, ⟨#[]⟩, nilS⟩ ht rfl (nil_row _ _) nil_new (by have := HS.out.len; simp only; omega) 0))
      clear hs hx hol
      go_wp2_with fail
      refine HT.out.mono ?_
      rintro e w2 ⟨h1, -⟩
      obtain ⟨rfl, tv', hx⟩ := h1 HH.out
      go_wp2
      go_ret
      exact ⟨rfl, _, tv', hx⟩
def clsP (p : Nat) : Pz Tk := andThen (word 70 [47]) fun _ _ => andThen name fun nm _ => andThen (word 70 [62]) fun _ _ => done ⟨4, p, 0, nm, [], false, []⟩
theorem fair_cls2 (p : Nat) : Fair (andThen name fun nm _ => andThen (word 70 [62]) fun _ _ => done (⟨4, p, 0, nm, [], false, []⟩ : Tk)) := fair_then fair_name fun _ _ => fair_then (fair_word _ _) fun _ _ => fair_done _
set_option maxRecDepth 100000 in
set_option maxHeartbeats 8000000 in
theorem closing_c {w0 w : World} {cb mb : Nat} {s : ByteArray} {p : Nat} {m : M} {xs : List (Tk × Tm)} {tv : Value} (h : Sc w0 w cb mb s p m xs tv) (fr : Nat) :
    Calls Tryd.prog 87 #[.pointer (some ⟨cb, 0, none⟩), .int .i64 fr] w fun e w' => PT w0 w' cb mb s xs (finT (fo s m p (clsP fr))) e := by
  have HS := hid h
  have HW1 := hid (word_c h.cu ⟨#[47]⟩ (by decide) 70)
  have hok := h.cu.ok
  have hw := h.cu.why
  rw [show bl ⟨#[47]⟩ = [47] by decide] at HW1
  rcases h1 : fo s m p (word 70 [47]) with ⟨m1, F | ⟨u1, q1⟩⟩
  · rw [h1] at HW1
    rw [show fo s m p (clsP fr) = (m1, .error F) from fo_then_bad hw (fair_word _ _) h1]
    clear h1 h hok hw
    go_enter Tryd.func87, Tryd.ntmps87
    go_wp2_with fail
    refine HW1.out.mono ?_
    rintro e w1 ⟨⟨rfl, hx⟩, hol⟩
    go_wp2
    go_ret
    exact ⟨rfl, hx, HS.out.off hol⟩
  have e1 : fo s m p (clsP fr) = fo s m1 q1 (andThen name fun nm _ => andThen (word 70 [62]) fun _ _ => done ⟨4, fr, 0, nm, [], false, []⟩) := fo_then_ok hw (fair_word _ _) h1
  have g1 := fo_gt hw (goes_word _ _ _) h1
  have hok1 := fo_mok hok h1
  have hw1 := fo_why hw h1
  rw [h1] at HW1
  rw [e1]
  clear h1 e1 hok hw
  rcases h2 : fo s m1 q1 name with ⟨m2, F | ⟨nm, q2⟩⟩
  · rw [fo_then_bad hw1 fair_name h2]
    clear h hok1 hw1
    go_enter Tryd.func87, Tryd.ntmps87
    go_wp2_with fail
    refine HW1.out.mono ?_
    rintro e w1 ⟨⟨rfl, hx⟩, hol⟩
    have HS1 := hid (HS.out.on hx hol (by simp only; omega))
    have HN := hid (name_c hx)
    rw [h2] at HN
    clear hx hol h2
    go_wp2_with fail
    refine HN.out.mono ?_
    rintro e w2 ⟨⟨⟨z, rfl, rfl⟩, hx⟩, hol⟩
    go_wp2
    go_ret
    exact ⟨rfl, hx, HS1.out.off hol⟩
  rw [fo_then_ok hw1 fair_name h2]
  have g2 := fo_gt hw1 goes_name h2
  have hok2 := fo_mok hok1 h2
  have hw2 := fo_why hw1 h2
  clear hok1 hw1
  rcases h3 : fo s m2 q2 (word 70 [62]) with ⟨m3, F | ⟨u3, q3⟩⟩
  · rw [fo_then_bad hw2 (fair_word _ _) h3]
    clear h hok2 hw2
    go_enter Tryd.func87, Tryd.ntmps87
    go_wp2_with fail
    refine HW1.out.mono ?_
    rintro e w1 ⟨⟨rfl, hx⟩, hol⟩
    have HS1 := hid (HS.out.on hx hol (by simp only; omega))
    have HN := hid (name_c hx)
    rw [h2] at HN
    clear hx hol h2
    go_wp2_with fail
    refine HN.out.mono ?_
    rintro e w2 ⟨⟨⟨z, rfl, t, rfl, ht⟩, hx⟩, hol⟩
    have HS2 := hid (HS1.out.on hx hol (by simp only; omega))
    have HW3 := hid (word_c hx ⟨#[62]⟩ (by decide) 70)
    rw [show bl ⟨#[62]⟩ = [62] by decide, h3] at HW3
    clear hx hol h3
    go_wp2_with fail
    refine HW3.out.mono ?_
    rintro e w3 ⟨⟨rfl, hx⟩, hol⟩
    go_wp2
    go_ret
    exact ⟨rfl, hx, HS2.out.off hol⟩
  rw [fo_then_ok hw2 (fair_word _ _) h3, fo_done (fo_mok hok2 h3) (fo_why hw2 h3)]
  have g3 := fo_gt hw2 (goes_word _ _ _) h3
  clear h hok2 hw2
  rcases hh : m3.holdOk 1 with _ | _
  · rw [finT_no hh]
    have HH := hid hh
    clear hh
    go_enter Tryd.func87, Tryd.ntmps87
    go_wp2_with fail
    refine HW1.out.mono ?_
    rintro e w1 ⟨⟨rfl, hx⟩, hol⟩
    have HS1 := hid (HS.out.on hx hol (by simp only; omega))
    have HN := hid (name_c hx)
    rw [h2] at HN
    clear hx hol h2
    go_wp2_with fail
    refine HN.out.mono ?_
    rintro e w2 ⟨⟨⟨z, rfl, t, rfl, ht⟩, hx⟩, hol⟩
    have HS2 := hid (HS1.out.on hx hol (by simp only; omega))
    have HW3 := hid (word_c hx ⟨#[62]⟩ (by decide) 70)
    rw [show bl ⟨#[62]⟩ = [62] by decide, h3] at HW3
    clear hx hol h3
    go_wp2_with fail
    refine HW3.out.mono ?_
    rintro e w3 ⟨⟨rfl, hx⟩, hol⟩
    have hs := HS2.out.on hx hol (by simp only; omega)
    have HT := hid ((token_s hs ⟨4, fr, 0, nm, [], false, []⟩ ⟨t, ⟨#[]⟩, nilS⟩ ht rfl (nil_row _ _) nil_new (by have := HS.out.len; simp only; omega) 0))
    clear hs hx hol
    go_wp2_with fail
    refine HT.out.mono ?_
    rintro e w4 ⟨-, h2⟩
    obtain ⟨rfl, hx, ho⟩ := h2 HH.out
    go_wp2
    go_ret
    exact ⟨rfl, hx, ho⟩
  · rw [finT_yes hh]
    have HH := hid hh
    clear hh
    go_enter Tryd.func87, Tryd.ntmps87
    go_wp2_with fail
    refine HW1.out.mono ?_
    rintro e w1 ⟨⟨rfl, hx⟩, hol⟩
    have HS1 := hid (HS.out.on hx hol (by simp only; omega))
    have HN := hid (name_c hx)
    rw [h2] at HN
    clear hx hol h2
    go_wp2_with fail
    refine HN.out.mono ?_
    rintro e w2 ⟨⟨⟨z, rfl, t, rfl, ht⟩, hx⟩, hol⟩
    have HS2 := hid (HS1.out.on hx hol (by simp only; omega))
    have HW3 := hid (word_c hx ⟨#[62]⟩ (by decide) 70)
    rw [show bl ⟨#[62]⟩ = [62] by decide, h3] at HW3
    clear hx hol h3
    go_wp2_with fail
    refine HW3.out.mono ?_
    rintro e w3 ⟨⟨rfl, hx⟩, hol⟩
    have hs := HS2.out.on hx hol (by simp only; omega)
    have HT := hid ((token_s hs ⟨4, fr, 0, nm, [], false, []⟩ ⟨t, ⟨#[]⟩, nilS⟩ ht rfl (nil_row _ _) nil_new (by have := HS.out.len; simp only; omega) 0))
    clear hs hx hol
    go_wp2_with fail
    refine HT.out.mono ?_
    rintro e w4 ⟨h1, -⟩
    obtain ⟨rfl, tv', hx⟩ := h1 HH.out
    go_wp2
    go_ret
    exact ⟨rfl, _, tv', hx⟩
set_option maxRecDepth 100000 in
set_option maxHeartbeats 8000000 in
theorem ending_c {w0 w : World} {cb mb : Nat} {s : ByteArray} {p : Nat} {m : M} {xs : List (Tk × Tm)} {tv : Value} (h : Sc w0 w cb mb s p m xs tv) :
    Calls Tryd.prog 83 #[.pointer (some ⟨cb, 0, none⟩)] w fun e w' => PT w0 w' cb mb s xs (finT (fo s m p (endP p))) e := by
  have HS := hid h
  have hok := h.cu.ok
  have hw := h.cu.why
  have c2 : w.cell? ⟨cb, 2, none⟩ = some (.int .i64 p) := h.cu.c.cell 2
  obtain ⟨a, ha⟩ : ∃ a, aheadI (rest s p).head? = a := ⟨_, rfl⟩
  have HA := hid (fun W (h : Cu W cb mb s p tv m) => (by rw [← ha]; exact ahead_any h : Calls Tryd.prog 60 #[.pointer (some ⟨cb, 0, none⟩)] W fun e w' => e = .returned (.int .i64 a) ∧ ∃ n, w' = W.drewN n))
  by_cases h47 : a = 47
  · subst h47
    have hP : fo s m p (endP p) = fo s m p (andThen (word 70 [47, 62]) (fun _ _ => done ⟨3, p, 0, [], [], true, []⟩)) := by
      show fo s m p (look _) = _
      rw [fo_look]
      rcases hh : (rest s p).head? with _ | b
      · rw [hh] at ha; simp [aheadI] at ha
      · rw [hh] at ha; simp only [aheadI] at ha
        rw [if_pos (by congr 1; omega)]
    rw [hP]
    have HW1 := hid (fun n => word_c (HS.out.cu.drewN n) ⟨#[47, 62]⟩ (by decide) 70)
    rw [show bl ⟨#[47, 62]⟩ = [47, 62] by decide] at HW1
    rcases h1 : fo s m p (word 70 [47, 62]) with ⟨m1, F | ⟨u1, q1⟩⟩
    · rw [h1] at HW1
      rw [fo_then_bad hw (fair_word _ _) h1]
      clear h1 h hok hw hP
      go_enter Tryd.func83, Tryd.ntmps83
      go_wp2_with fail
      refine (HA.out _ HS.out.cu).mono ?_
      rintro e w1 ⟨rfl, n, rfl⟩
      go_wp2_with fail
      refine (HW1.out n).mono ?_
      rintro e w1 ⟨⟨rfl, hx⟩, hol⟩
      go_wp2
      go_ret
      exact ⟨rfl, hx, (HS.out.still (only_drewN _ n)).off hol⟩
    have g1 := fo_gt hw (goes_word _ _ _) h1
    rw [h1] at HW1
    rw [fo_then_ok hw (fair_word _ _) h1, fo_done (fo_mok hok h1) (fo_why hw h1)]
    clear h1 h hok hw hP
    rcases hh : m1.holdOk 1 with _ | _
    · rw [finT_no hh]
      have HH := hid hh
      clear hh
      go_enter Tryd.func83, Tryd.ntmps83
      go_wp2_with fail
      refine (HA.out _ HS.out.cu).mono ?_
      rintro e w1 ⟨rfl, n, rfl⟩
      go_wp2_with fail
      refine (HW1.out n).mono ?_
      rintro e w1 ⟨⟨rfl, hx⟩, hol⟩
      have hs := (HS.out.still (only_drewN _ n)).on hx hol (by simp only; omega)
      have HT := hid ((token_s hs ⟨3, p, 0, [], [], true, []⟩ ⟨⟨#[]⟩, ⟨#[]⟩, nilS⟩ rfl rfl (nil_row _ _) nil_new (by have := HS.out.len; simp only; omega) 0))
      clear hs hx hol
      go_wp2_with fail
      refine HT.out.mono ?_
      rintro e w4 ⟨-, h2⟩
      obtain ⟨rfl, hx, ho⟩ := h2 HH.out
      go_wp2
      go_ret
      exact ⟨rfl, hx, ho⟩
    · rw [finT_yes hh]
      have HH := hid hh
      clear hh
      go_enter Tryd.func83, Tryd.ntmps83
      go_wp2_with fail
      refine (HA.out _ HS.out.cu).mono ?_
      rintro e w1 ⟨rfl, n, rfl⟩
      go_wp2_with fail
      refine (HW1.out n).mono ?_
      rintro e w1 ⟨⟨rfl, hx⟩, hol⟩
      have hs := (HS.out.still (only_drewN _ n)).on hx hol (by simp only; omega)
      have HT := hid ((token_s hs ⟨3, p, 0, [], [], true, []⟩ ⟨⟨#[]⟩, ⟨#[]⟩, nilS⟩ rfl rfl (nil_row _ _) nil_new (by have := HS.out.len; simp only; omega) 0))
      clear hs hx hol
      go_wp2_with fail
      refine HT.out.mono ?_
      rintro e w4 ⟨h1, -⟩
      obtain ⟨rfl, tv', hx⟩ := h1 HH.out
      go_wp2
      go_ret
      exact ⟨rfl, _, tv', hx⟩
  · have h47b : (a == 47) = false := by simpa using h47
    have hP : fo s m p (endP p) = fo s m p (andThen (word 70 [62]) (fun _ _ => done ⟨3, p, 0, [], [], false, []⟩)) := by
      show fo s m p (look _) = _
      rw [fo_look]
      rw [if_neg]
      intro hh
      rw [hh] at ha; simp only [aheadI] at ha
      exact h47 (by omega)
    rw [hP]
    have HW1 := hid (fun n => word_c (HS.out.cu.drewN n) ⟨#[62]⟩ (by decide) 70)
    rw [show bl ⟨#[62]⟩ = [62] by decide] at HW1
    rcases h1 : fo s m p (word 70 [62]) with ⟨m1, F | ⟨u1, q1⟩⟩
    · rw [h1] at HW1
      rw [fo_then_bad hw (fair_word _ _) h1]
      clear h1 h hok hw hP
      go_enter Tryd.func83, Tryd.ntmps83
      go_wp2_with fail
      refine (HA.out _ HS.out.cu).mono ?_
      rintro e w1 ⟨rfl, n, rfl⟩
      go_wp2_with fail
      refine (HW1.out n).mono ?_
      rintro e w1 ⟨⟨rfl, hx⟩, hol⟩
      go_wp2
      go_ret
      exact ⟨rfl, hx, (HS.out.still (only_drewN _ n)).off hol⟩
    have g1 := fo_gt hw (goes_word _ _ _) h1
    rw [h1] at HW1
    rw [fo_then_ok hw (fair_word _ _) h1, fo_done (fo_mok hok h1) (fo_why hw h1)]
    clear h1 h hok hw hP
    rcases hh : m1.holdOk 1 with _ | _
    · rw [finT_no hh]
      have HH := hid hh
      clear hh
      go_enter Tryd.func83, Tryd.ntmps83
      go_wp2_with fail
      refine (HA.out _ HS.out.cu).mono ?_
      rintro e w1 ⟨rfl, n, rfl⟩
      go_wp2_with fail
      refine (HW1.out n).mono ?_
      rintro e w1 ⟨⟨rfl, hx⟩, hol⟩
      have hs := (HS.out.still (only_drewN _ n)).on hx hol (by simp only; omega)
      have HT := hid ((token_s hs ⟨3, p, 0, [], [], false, []⟩ ⟨⟨#[]⟩, ⟨#[]⟩, nilS⟩ rfl rfl (nil_row _ _) nil_new (by have := HS.out.len; simp only; omega) 0))
      clear hs hx hol
      go_wp2_with fail
      refine HT.out.mono ?_
      rintro e w4 ⟨-, h2⟩
      obtain ⟨rfl, hx, ho⟩ := h2 HH.out
      go_wp2
      go_ret
      exact ⟨rfl, hx, ho⟩
    · rw [finT_yes hh]
      have HH := hid hh
      clear hh
      go_enter Tryd.func83, Tryd.ntmps83
      go_wp2_with fail
      refine (HA.out _ HS.out.cu).mono ?_
      rintro e w1 ⟨rfl, n, rfl⟩
      go_wp2_with fail
      refine (HW1.out n).mono ?_
      rintro e w1 ⟨⟨rfl, hx⟩, hol⟩
      have hs := (HS.out.still (only_drewN _ n)).on hx hol (by simp only; omega)
      have HT := hid ((token_s hs ⟨3, p, 0, [], [], false, []⟩ ⟨⟨#[]⟩, ⟨#[]⟩, nilS⟩ rfl rfl (nil_row _ _) nil_new (by have := HS.out.len; simp only; omega) 0))
      clear hs hx hol
      go_wp2_with fail
      refine HT.out.mono ?_
      rintro e w4 ⟨h1, -⟩
      obtain ⟨rfl, tv', hx⟩ := h1 HH.out
      go_wp2
      go_ret
      exact ⟨rfl, _, tv', hx⟩
end Go.Proofs.YthlbbinlkmchjaaDoor
