/- The walks of the document's Restart and Seen. -/
import Derived.Test.YtgamlioahdbikaaRyk
import Derived.Test.YtgamlioahdbikaaLit
namespace Go.Proofs.Ytgamlioahdbikaa
open Go.RowKit Go.Maps

/-- The document's memory lies in block m. -/
def RS (w : World) (m : Nat) (s : St) : Prop := (∃ v, CB w m 30 [v, .bool s.cl, .int .i64 s.beg] ∧ RowX w 0 35 19 v (s.M.map auC)) ∧ I64 s.beg ∧ ∀ x ∈ s.M, auOk x
theorem RS.none {w w' : World} {m : Nat} {s : St} (h : RS w m s) (hg : w.grownBy w' Option.none) : RS w' m s := by
  obtain ⟨⟨v, h1, h2⟩, h3⟩ := h
  exact ⟨⟨v, h1.kept hg, h2.none hg⟩, h3⟩
theorem RS.lt {w : World} {m : Nat} {s : St} (h : RS w m s) : m < w.heap.size := by
  obtain ⟨⟨v, h1, h2⟩, h3⟩ := h
  exact h1.lt
/-- It stays while a map is written, or a block of another kind. -/
theorem RS.map {w w' : World} {m b : Nat} {s : St} {k : TypeId} {α β : Type} {kv : α → Value} {vv : β → Value} {M : List (α × β)} (h : RS w m s) (hb : MT Try.prog k kv vv w b M) (hg : w.grownBy w' (some b)) : RS w' m s := by
  obtain ⟨⟨v, h1, h2⟩, h3⟩ := h
  obtain ⟨_, es, cl, hm, _⟩ := hb
  refine ⟨⟨v, h1.grown hg (fun e => ?_), h2.row hg (h2.ne_map hm)⟩, h3⟩
  subst e
  unfold CB at h1
  rw [hm] at h1
  cases h1
theorem RS.cells {w w' : World} {m g : Nat} {s : St} {t : TypeId} {cs : List Value} (h : RS w m s) (hc : CB w g t cs) (h1 : 35 ≠ t) (h2 : 30 ≠ t) (hg : w.grownBy w' (some g)) : RS w' m s := by
  obtain ⟨⟨v, h3, h4⟩, h5⟩ := h
  refine ⟨⟨v, h3.grown hg (fun e => ?_), h4.row hg (h4.ne_cells hc h1)⟩, h5⟩
  subst e
  unfold CB at h3 hc
  rw [h3] at hc
  injection hc with hc
  injection hc with _ ht
  exact h2 ht
theorem sizeSl : (Try.prog.info? 28).map (·.size) = some 1 := by kernel_rfl
theorem rowA : RowT Try.prog 28 35 19 := ⟨Try.underlying28, by
  refine ⟨_, _, rfl, rfl, rfl, ?_, rfl⟩
  decide, by omega⟩

theorem above_any (a b : Int) (w : World) (ha : I64 a) (hb : I64 b) : Calls Try.prog 19 #[.int .i64 a, .int .i64 b] w fun e w' => e = .returned (.bool (far a b)) ∧ w' = w := by
  by_cases h1 : b < a
  · have hw := wrap_diff ha hb h1
    have h2 : ¬ a ≤ b := by omega
    have d1 : decide (b < a) = true := decide_eq_true h1
    rw [far, d1, Bool.true_and]
    go_enter Try.func19, Try.ntmps19
    go_wp2
    go_ret
    exact ⟨rfl, rfl⟩
  · have d1 : decide (b < a) = false := decide_eq_false h1
    have h2 : a ≤ b := by omega
    rw [far, d1, Bool.false_and]
    go_enter Try.func19, Try.ntmps19
    go_wp2
    go_ret
    exact ⟨rfl, rfl⟩

theorem refRestart_any (w : World) (m : Nat) (s : St) (now : Int) (h : RS w m s) (hn : I64 now) :
    Calls Try.prog 11 #[.pointer (some ⟨m, 0, none⟩), .int .i64 now] w fun e w' => e = .returned (.tuple #[]) ∧ RS w' m (restartOf s now) ∧ w.grownBy w' (some m) := by
  obtain ⟨M, cl, beg⟩ := s
  obtain ⟨⟨v, hc, hv⟩, hb, _⟩ := h
  have HI := Lib.hid hn
  have HB := Lib.hid (show I64 beg from hb)
  have B0 := Lib.hid hc
  clear hc hv hb hn
  by_cases hc : cl = false ∨ beg < now
  · have HE := Lib.hid (show restartOf ⟨M, cl, beg⟩ now = ⟨[], true, now⟩ by unfold restartOf; rw [if_pos hc])
    rw [HE.out]
    have hcase : cl = false ∨ (cl = true ∧ decide (beg < now) = true) := by
      cases cl with
      | false => exact .inl rfl
      | true => exact .inr ⟨rfl, decide_eq_true (hc.resolve_left (by simp))⟩
    clear hc
    go_enter Try.func11, Try.ntmps11
    rcases hcase with rfl | ⟨rfl, d1⟩
    all_goals
      go_wp2_with (first
        | (refine wpList_storeC (off := 0) (p := [.slice none 0 0]) sizeSl rfl (.tmp 6) (.const (.slice none 0 0)) rfl (.slice none 0 0) rfl (fun u hu => by rw [List.mem_singleton.1 hu]; rfl) B0.out rfl (by simp) (by first | rfl | go_simp) (by first | rfl | go_simp) ?_; intro w1 h1 g1; have B1 := Lib.hid h1; have G1 := Lib.hid g1; have p1 := h1.at_ (i := 1) rfl; have p2 := h1.at_ (i := 2) rfl; clear h1 g1)
        | (refine wpList_storeC (off := 2) (p := [.int .i64 now]) size1 rfl (.tmp 23) (.tmp 21) rfl (.int .i64 now) rfl (fun u hu => by rw [List.mem_singleton.1 hu]; rfl) B1.out rfl (by simp [over]) (by first | rfl | go_simp) (by first | rfl | go_simp) ?_; intro w2 h2 g2; have B2 := Lib.hid h2; have G2 := Lib.hid (grown_trans' G1.out g2); clear p1 p2 h2 g2)
        | (refine wpList_storeC (off := 1) (p := [.bool true]) sizeB rfl (.tmp 26) (.const (.bool true)) rfl (.bool true) rfl (fun u hu => by rw [List.mem_singleton.1 hu]; rfl) B2.out rfl (by simp [over]) (by first | rfl | go_simp) (by first | rfl | go_simp) ?_; intro w3 h3 g3))
      go_end0
      exact ⟨rfl, ⟨⟨_, h3, RowX.nil_ _ _ _ _⟩, HI.out, fun x hx => by cases hx⟩, grown_trans' G2.out g3⟩
  · have hcl : cl = true := by cases cl with
      | true => rfl
      | false => exact absurd (Or.inl rfl) hc
    subst hcl
    have d1 : decide (beg < now) = false := decide_eq_false (fun h => hc (Or.inr h))
    have HE := Lib.hid (show restartOf ⟨M, true, beg⟩ now = ⟨[], true, beg⟩ by unfold restartOf; rw [if_neg hc])
    rw [HE.out]
    clear hc
    go_enter Try.func11, Try.ntmps11
    go_wp2_with (first
      | (refine wpList_storeC (off := 0) (p := [.slice none 0 0]) sizeSl rfl (.tmp 6) (.const (.slice none 0 0)) rfl (.slice none 0 0) rfl (fun u hu => by rw [List.mem_singleton.1 hu]; rfl) B0.out rfl (by simp) (by first | rfl | go_simp) (by first | rfl | go_simp) ?_; intro w1 h1 g1; have B1 := Lib.hid h1; have G1 := Lib.hid g1; have p1 := h1.at_ (i := 1) rfl; have p2 := h1.at_ (i := 2) rfl; clear h1 g1)
      | (refine wpList_storeC (off := 1) (p := [.bool true]) sizeB rfl (.tmp 26) (.const (.bool true)) rfl (.bool true) rfl (fun u hu => by rw [List.mem_singleton.1 hu]; rfl) B1.out rfl (by simp [over]) (by first | rfl | go_simp) (by first | rfl | go_simp) ?_; intro w3 h3 g3))
    go_end0
    exact ⟨rfl, ⟨⟨_, h3, RowX.nil_ _ _ _ _⟩, HB.out, fun x hx => by cases hx⟩, grown_trans' G1.out g3⟩

/-- What the document's Seen leaves. -/
def SeenD (w : World) (m : Nat) (r : St × Int) (e : Ending) (w' : World) : Prop := e = .returned (.int .i64 r.2) ∧ RS w' m r.1 ∧ w.grownBy w' (some m)

set_option maxRecDepth 10000 in
set_option maxHeartbeats 1000000 in
theorem refSeen_far (w : World) (m : Nat) (s : St) (u : Au) (now : Int) (h : RS w m s) (hu : auOk u) (hn : I64 now) (hf : far u.2.1 now = true ∨ far now u.2.1 = true) :
    Calls Try.prog 13 #[.pointer (some ⟨m, 0, none⟩), .agg (auC u).toArray, .int .i64 now] w (SeenD w m (s, 65)) := by
  have q1 := (CB.new w 35 (auC u)).at_ (auC_ti u)
  have IU := Lib.hid hu.ti
  have IN := Lib.hid hn
  have HG := Lib.hid (grown_alloc w (.cells (auC u).toArray 35) (some m))
  have HS := Lib.hid (h.none (grown_alloc w (.cells (auC u).toArray 35) none))
  clear h hu hn
  cases hf1 : far u.2.1 now with
  | true =>
    have H1 := Lib.hid hf1
    clear hf hf1
    go_enter Try.func13, Try.ntmps13
    go_wp2_with (go_at_call 19; refine (above_any u.2.1 now _ IU.out IN.out).mono ?_; rintro e w1 ⟨rfl, rfl⟩; rw [H1.out])
    go_ret
    exact ⟨rfl, HS.out, HG.out⟩
  | false =>
    have H1 := Lib.hid hf1
    have H2 := Lib.hid (hf.resolve_left (by rw [hf1]; simp))
    have TK0 := Lib.hid True.intro
    clear hf hf1
    go_enter Try.func13, Try.ntmps13
    go_wp2_with (first
      | (go_at_call 19; have hx := TK0; clear hx; refine (above_any u.2.1 now _ IU.out IN.out).mono ?_; rintro e w1 ⟨rfl, rfl⟩; rw [H1.out]; clear TK0)
      | (go_at_call 19; refine (above_any now u.2.1 _ IN.out IU.out).mono ?_; rintro e w1 ⟨rfl, rfl⟩; rw [H2.out]))
    go_ret
    exact ⟨rfl, HS.out, HG.out⟩
end Go.Proofs.Ytgamlioahdbikaa
