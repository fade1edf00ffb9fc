/- Whether nothing waits; the walk of Idle; a Mux beside the document's. -/
import Derived.Test.YtajfaplaaafjiaaMxx
namespace Go.Proofs.Ytajfaplaaafjiaa
open Go.RowKit

def idleC (c : Ch) : Bool := !mayS c && !mustE c && decide (c.read = 0)
def idleM (C : Nat → Ch) : Bool := idleC (C 0) && idleC (C 1) && idleC (C 2) && idleC (C 3)
theorem idleM_iff {C : Nat → Ch} : idleM C = true ↔ ∀ i, i < 4 → idleC (C i) = true := by
  unfold idleM
  simp only [Bool.and_eq_true]
  constructor
  · rintro ⟨⟨⟨h0, h1⟩, h2⟩, h3⟩ i hi
    match i, hi with
    | 0, _ => exact h0
    | 1, _ => exact h1
    | 2, _ => exact h2
    | 3, _ => exact h3
    | n + 4, h => omega
  · intro h
    exact ⟨⟨⟨h 0 (by omega), h 1 (by omega)⟩, h 2 (by omega)⟩, h 3 (by omega)⟩
theorem outC_idle {i : Nat} {c : Ch} : (outC i c).1.length = 0 ↔ idleC c = true := by
  unfold idleC
  simp only [Bool.and_eq_true, Bool.not_eq_true', decide_eq_true_eq]
  by_cases hm : mayS c = true
  · rw [hm]
    obtain ⟨f, hf⟩ : ∃ f, c.credit = f + 1 := ⟨c.credit - 1, by have := ((mayS_iff c).1 hm).2; omega⟩
    have e : (sends c).1 = c.waits.take (sendK c) :: (sendsF f (chSend c (sendK c))).1 := by unfold sends; rw [hf, sendsF_yes hm]
    unfold outC
    simp [e]
  · have h1 : (sends c).1 = [] := by unfold sends; rw [sendsF_no hm]
    have h2 : (sends c).2 = c := by unfold sends; rw [sendsF_no hm]
    have h3 : mayS c = false := by simpa using hm
    unfold outC
    rw [h1, h2, h3]
    simp only [List.map_nil, List.nil_append, List.length_append]
    by_cases h4 : mustE c = true
    · rw [if_pos h4, h4]; simp
    · rw [if_neg h4, show mustE c = false by simpa using h4]
      by_cases h5 : 0 < c.read
      · rw [if_pos h5]; simp; omega
      · rw [if_neg h5]; simp; omega
theorem outM_idle : ∀ (n : Nat) (C : Nat → Ch), (outM n C).1.length = 0 ↔ ∀ i, i < n → idleC (C i) = true
  | 0, C => by simp [outM]
  | n + 1, C => by
    have hA : (outM n C).2 n = C n := outM_later n C n (Nat.le_refl _)
    show ((outM n C).1 ++ (outC n ((outM n C).2 n)).1).length = 0 ↔ _
    rw [hA, List.length_append, Nat.add_eq_zero_iff, outM_idle n C, outC_idle]
    constructor
    · rintro ⟨h1, h2⟩ i hi
      by_cases e : i = n
      · subst e; exact h2
      · exact h1 i (by omega)
    · intro h
      exact ⟨fun i hi => h i (by omega), h n (by omega)⟩
theorem idle_out (C : Nat → Ch) : decide ((outM 4 C).1.length = 0) = idleM C := by
  cases h : idleM C with
  | true => exact decide_eq_true ((outM_idle 4 C).2 (idleM_iff.1 h))
  | false => exact decide_eq_false (fun e => by have := idleM_iff.2 ((outM_idle 4 C).1 e); rw [h] at this; cases this)

set_option maxHeartbeats 4000000 in
theorem muidle_any (w : World) (base m : Nat) (us vs : Nat → Value) (C : Nat → Ch) (h : MX w base m us vs C) :
    Calls Try.prog 35 #[.pointer (some ⟨m, 0, none⟩)] w fun e w' => e = .returned (.bool (idleM C)) ∧ Dr w w' := by
  have H := Lib.hid h
  obtain ⟨ib, hib⟩ : ∃ x, idleM C = x := ⟨_, rfl⟩
  have IB := Lib.hid hib
  rw [hib]
  clear h hib
  go_enter Try.func35, Try.ntmps35
  go_wp2
  go_loopw [5] (fun i wr => ∃ k : Nat, i = .int .i64 k ∧ k ≤ 4 ∧ (∀ i, i < k → idleC (C i) = true) ∧ Dr w wr) (fun i _ => 4 - (intOf i).toNat)
  case atStart => exact ⟨0, rfl, by omega, fun i hi => by omega, Dr.refl _⟩
  case round =>
    obtain ⟨k, rfl, hk, hall, hd⟩ := hrel
    by_cases hlt : k < 4
    · have hki : (k : Int) < 4 := by omega
      have HD := Lib.hid hd
      have HM := Lib.hid (H.out.made (hd.made none))
      have MAY := Lib.hid (at8 (Nat.mul_comm k 8) (mmay_any wr base m (8 * k) _ _ _ (C k) (HM.out.side hlt)))
      have MU := Lib.hid (fun q => at8 (Nat.mul_comm k 8) (mmust_any (wr.drewN q) base m (8 * k) _ _ _ (C k) ((HM.out.made (show wr.grownBy (wr.drewN q) none from ⟨rfl, rfl, rfl, Nat.le_refl _, fun _ _ _ => rfl⟩)).side hlt)))
      have c6 : wr.cell? ⟨m, k * 8 + 6, none⟩ = some (.int .i64 ((C k).read : Int)) := by rw [Nat.mul_comm k 8]; exact (HM.out.side hlt).at_ (k := 6) rfl
      have C6 := Lib.hid c6
      have IK := Lib.hid (show ib = true → idleC (C k) = true from fun e => idleM_iff.1 (IB.out.trans e) k hlt)
      have hid : idleC (C k) = (!mayS (C k) && !mustE (C k) && decide ((C k).read = 0)) := rfl
      rw [hid] at IK
      have IDC := Lib.hid hid
      have HALL := Lib.hid hall
      clear hd hall hid c6
      cases hm : mayS (C k) with
      | true =>
        rw [hm] at MAY IK
        have hb : ib = false := by cases hx : ib with
          | false => rfl
          | true => have := IK.out hx; simp at this
        subst hb
        clear hm IK
        go_wp2_with (go_at_call 49; refine MAY.out.mono ?_; rintro e wx ⟨rfl, qq, rfl⟩)
        go_ret
        exact ⟨rfl, HD.out.trans ⟨_, rfl⟩⟩
      | false =>
        rw [hm] at MAY IK
        cases hu : mustE (C k) with
        | true =>
          rw [hu] at MU IK
          have hb : ib = false := by cases hx : ib with
            | false => rfl
            | true => have := IK.out hx; simp at this
          subst hb
          clear hm hu IK
          go_wp2_with (first
            | (go_at_call 49; refine MAY.out.mono ?_; rintro e wx ⟨rfl, qq, rfl⟩)
            | (go_at_call 51; refine (MU.out _).mono ?_; rintro e wx ⟨rfl, q, rfl⟩))
          go_ret
          exact ⟨rfl, HD.out.trans ⟨_, rfl⟩⟩
        | false =>
          rw [hu] at MU IK
          have HMF := Lib.hid hm
          have HUF := Lib.hid hu
          clear hm hu
          by_cases hr : 0 < (C k).read
          · have hb : ib = false := by cases hx : ib with
              | false => rfl
              | true => have := IK.out hx; simp at this; omega
            subst hb
            have hri : (0 : Int) < ((C k).read : Int) := by omega
            clear IK hr
            go_wp2_with (first
              | (go_at_call 49; refine MAY.out.mono ?_; rintro e wx ⟨rfl, qq, rfl⟩)
              | (go_at_call 51; refine (MU.out _).mono ?_; rintro e wx ⟨rfl, q, rfl⟩; have c6 : wr.cell? ⟨m, k * 8 + 6, none⟩ = some (.int .i64 ((C k).read : Int)) := C6.out))
            go_ret
            exact ⟨rfl, HD.out.trans ⟨_, rfl⟩⟩
          · have hri : ¬ (0 : Int) < ((C k).read : Int) := by omega
            have HAN := Lib.hid (show ∀ i, i < k + 1 → idleC (C i) = true from fun i hi => by
              by_cases e : i = k
              · subst e
                rw [IDC.out, HMF.out, HUF.out, decide_eq_true (show (C i).read = 0 by omega)]; rfl
              · exact HALL.out i (by omega))
            clear IK hr
            go_wp2_with (first
              | (go_at_call 49; refine MAY.out.mono ?_; rintro e wx ⟨rfl, qq, rfl⟩)
              | (go_at_call 51; refine (MU.out _).mono ?_; rintro e wx ⟨rfl, q, rfl⟩; have c6 : wr.cell? ⟨m, k * 8 + 6, none⟩ = some (.int .i64 ((C k).read : Int)) := C6.out))
            go_roundw
            case rel => exact ⟨k + 1, by go_num, by omega, HAN.out, HD.out.trans ⟨_, rfl⟩⟩
            case measure => simp [intOf]; omega
    · have hk4 : k = 4 := by omega
      subst hk4
      have hb : ib = true := IB.out.symm.trans (idleM_iff.2 hall)
      subst hb
      go_wp2
      go_ret
      exact ⟨rfl, hd⟩

/-! A Mux beside the document's, and the call that is carried out. -/
structure MO (w x : World) (m : Nat) (us vs : Nat → Value) (C : Nat → Ch) (n : Nat) (us' vs' : Nat → Value) (D : Nat → Rc) (g6 : Nat) (cs : List Value) : Prop where
  mx : MX x w.heap.size m us vs C
  rx : RX x w.heap.size n us' vs' D
  ap : ∀ z, mxS m us vs z → ¬ rxS n us' vs' z
  gr : w.grownBy x none
  cb : CB x g6 53 cs
  h6 : w.heap.size ≤ g6
section
variable {w x y : World} {m n g6 : Nat} {us vs us' vs' us1 vs1 : Nat → Value} {C C1 : Nat → Ch} {D D1 : Nat → Rc} {cs : List Value}
theorem RX.ne_cells {base : Nat} (h : RX x base n us' vs' D) {g : Nat} {t : TypeId} {cs : List Value} (hc : CB x g t cs) (h1 : 92 ≠ t) (h2 : 5 ≠ t) : ¬ rxS n us' vs' g := by
  rintro (rfl | ⟨i, hi, e | e⟩)
  · have := (h.cb).symm.trans hc
    injection this with this
    injection this with _ ht
    exact h1 ht
  · exact (h.ou i hi).ne_cells hc h2 e
  · exact (h.ov i hi).ne_cells hc h2 e
theorem MO.made (h : MO w x m us vs C n us' vs' D g6 cs) (g : x.grownBy y none) : MO w y m us vs C n us' vs' D g6 cs := ⟨h.mx.made g, h.rx.made g, h.ap, grown_trans' h.gr g, h.cb.kept g, h.h6⟩
theorem MO.stepM (h : MO w x m us vs C n us' vs' D g6 cs) (k : MX y w.heap.size m us1 vs1 C1) (g : MG x y m us vs us1 vs1) : MO w y m us1 vs1 C1 n us' vs' D g6 cs := by
  refine ⟨k, h.rx.mod g.1 (fun z hz hs => h.ap z hs hz), fun z h1 h2 => ?_, gr_mux h.mx h.gr g, h.cb.mod g.1 (h.mx.ne_cells h.cb (by decide) (by decide)), h.h6⟩
  rcases g.2 z h1 with e | e
  · exact h.ap z e h2
  · have := (h.rx.lt z h2).2; omega
theorem MO.stepR (h : MO w x m us vs C n us' vs' D g6 cs) (k : RX y w.heap.size n us1 vs1 D1) (g : RG x y n us' vs' us1 vs1) : MO w y m us vs C n us1 vs1 D1 g6 cs := by
  refine ⟨h.mx.mod g.1 (fun z hz e => h.ap z hz (.inl e)), k, fun z h1 h2 => ?_, ?_, h.cb.mod g.1 (fun e => h.rx.ne_cells h.cb (by decide) (by decide) (.inl e)), h.h6⟩
  · rcases g.2 z h2 with e | e
    · exact h.ap z h1 e
    · have := (h.mx.lt z h1).2; omega
  · exact (Mod.next (S := fun z => w.heap.size ≤ z) (Mod.made h.gr) g.1 (fun i hi e => by have := h.rx.hb; omega)).none (fun k hk e => by omega)
/-- A row that isn't theirs is written. -/
theorem MO.row {S : Nat → Prop} (h : MO w x m us vs C n us' vs' D g6 cs) (k : Mod S x y) (h1 : ∀ z, S z → w.heap.size ≤ z ∧ ¬ mxS m us vs z ∧ ¬ rxS n us' vs' z ∧ z ≠ g6) : MO w y m us vs C n us' vs' D g6 cs :=
  ⟨h.mx.mod k (fun z hz e => (h1 z e).2.1 hz), h.rx.mod k (fun z hz e => (h1 z e).2.2.1 hz), h.ap, (Mod.next (S := fun z => w.heap.size ≤ z) (Mod.made h.gr) k (fun i hi e => (h1 i e).1)).none (fun k hk e => by omega), h.cb.mod k (fun e => (h1 g6 e).2.2.2 rfl), h.h6⟩
end
theorem sz8' : (Try.prog.info? 5).map (·.size) = some 1 := by kernel_rfl
theorem own_CB' {w : World} {b : Nat} {A : Option Addr} {n c : Nat} {l : List UInt8} (h : OwnB w b 5 (.slice A n c) l) : ∀ g, (Value.slice A n c).ownBlock = some g → A = some ⟨g, 0, none⟩ ∧ n ≤ c ∧ ∃ cs, CB w g 5 cs ∧ cs.length = c := by
  intro g hg
  rcases h.2 with ⟨hv, _⟩ | ⟨g', cap, cur, hv, _, hg', hc, _, hz, _⟩
  · rw [hv] at hg; simp [Value.ownBlock] at hg
  · simp only [Value.slice.injEq] at hv
    obtain ⟨rfl, rfl, rfl⟩ := hv
    have e : g' = g := by simpa [Value.ownBlock] using hg
    subst e
    exact ⟨rfl, hc, cur.toList, by rw [CB, Array.toArray_toList]; exact hg', by simpa using hz⟩
theorem RB.none_len' {w : World} {B : Nat} {l : List UInt8} {c : Nat} (h : RB w B none l c) : l.length = 0 := by
  obtain ⟨h1, _, h3⟩ := h
  rcases h3 with ⟨_, h⟩ | ⟨a, h, _⟩
  · omega
  · cases h
end Go.Proofs.Ytajfaplaaafjiaa
