/- The walks of a Mux's Write, Close, Read, Ended. -/
import Derived.Test.YtajfaplaaafjiaaMxg
namespace Go.Proofs.Ytajfaplaaafjiaa
open Go.RowKit

/-- What a call on a Mux did: only its own blocks were written; its rows are old ones or new. -/
def MG (w w' : World) (m : Nat) (us vs us' vs' : Nat → Value) : Prop := Mod (mxS m us vs) w w' ∧ ∀ z, mxS m us' vs' z → mxS m us vs z ∨ w.heap.size ≤ z
theorem MG.refl (w : World) (m : Nat) (us vs : Nat → Value) : MG w w m us vs us vs := ⟨Mod.refl _ _, fun _ h => .inl h⟩
theorem MG.of_made {w w' : World} (m : Nat) (us vs : Nat → Value) (h : w.grownBy w' none) : MG w w' m us vs us vs := ⟨Mod.made h, fun _ h => .inl h⟩
theorem MG.trans {w w1 w2 : World} {m : Nat} {us vs us1 vs1 us2 vs2 : Nat → Value} (h : MG w w1 m us vs us1 vs1) (k : MG w1 w2 m us1 vs1 us2 vs2) : MG w w2 m us vs us2 vs2 := by
  refine ⟨h.1.next k.1 (fun i hi hs => (h.2 i hs).elim id fun e => by omega), fun z hz => ?_⟩
  rcases k.2 z hz with e | e
  · exact h.2 z e
  · exact .inr (Nat.le_trans h.1.size e)
section
variable {w w' : World} {base m i : Nat} {us vs : Nat → Value} {C : Nat → Ch} {u' v' : Value} {c' : Ch}
theorem MX.step (h : MX w base m us vs C) (hi : i < 4) (k : SD w' base m (8 * i) (muxC us vs C) u' v' c') (hM : Mod (sdS m (us i) (vs i)) w w') (nu : NewB w (us i) u') (nv : NewB w (vs i) v') :
    MX w' base m (upd us i u') (upd vs i v') (upd C i c') ∧ MG w w' m us vs (upd us i u') (upd vs i v') :=
  ⟨h.back hi k hM nu nv, hM.mono (fun _ _ hs => sdS_mxS hi hs), fun _ hz => mxS_upd h hi nu nv hz⟩
theorem sdU_u {u v : Value} (k : Mod (sdU m u) w w') : Mod (sdS m u v) w w' := k.mono fun _ _ h => h.imp id .inl
theorem sdU_v {u v : Value} (k : Mod (sdU m v) w w') : Mod (sdS m u v) w w' := k.mono fun _ _ h => h.imp id .inr
theorem sdM {u v : Value} (k : w.grownBy w' (some m)) : Mod (sdS m u v) w w' := (Mod.of_grown k).mono fun _ _ h => .inl (by injection h)
end

def badC (i : Int) : Prop := i < 0 ∨ 4 ≤ i
instance (i : Int) : Decidable (badC i) := by unfold badC; infer_instance
def muW (C : Nat → Ch) (i : Int) (l : List UInt8) : Int × (Nat → Ch) := if badC i then (100, C) else
  (writeE (C i.toNat) l.length, upd C i.toNat (if writeE (C i.toNat) l.length = 0 then chWrite (C i.toNat) l else C i.toNat))
def muC (C : Nat → Ch) (i : Int) : Int × (Nat → Ch) := if badC i then (100, C) else (if (C i.toNat).closed then 102 else 0, upd C i.toNat (chClose (C i.toNat)))
def rdK (C : Nat → Ch) (i most : Int) : Nat := if badC i ∨ most ≤ 0 then 0 else min most.toNat (C i.toNat).came.length
def muR (C : Nat → Ch) (i most : Int) : List UInt8 × (Nat → Ch) := if badC i ∨ most ≤ 0 then ([], C) else
  ((C i.toNat).came.take (rdK C i most), upd C i.toNat (chGive (C i.toNat) (rdK C i most)))
def muE (C : Nat → Ch) (i : Int) : Bool := if badC i then false else (C i.toNat).ended && decide ((C i.toNat).came.length = 0)

set_option maxHeartbeats 1000000 in
theorem muwrite_any (w : World) (base m : Nat) (us vs : Nat → Value) (C : Nat → Ch) (h : MX w base m us vs C) (hlim : ∀ i, i < 4 → (C i).waits.length ≤ 4096) (i : Int) (hi : I64 i) (A : Option Addr) (l : List UInt8) (n cap : Nat) (hn : l.length = n) (hr : RB w w.heap.size A l cap) (hnl : n ≤ 1000000) :
    Calls Try.prog 25 #[.pointer (some ⟨m, 0, none⟩), .int .i64 i, .slice A n cap] w fun e w' => e = .returned (.int .i64 (muW C i l).1) ∧ ∃ us' vs', MX w' base m us' vs' (muW C i l).2 ∧ MG w w' m us vs us' vs' := by
  have S := Lib.hid (mside_any w m i hi)
  have H := Lib.hid h
  by_cases hb : badC i
  · have hm : muW C i l = (100, C) := by unfold muW; rw [if_pos hb]
    have S2 := Lib.hid (show Calls _ _ _ _ _ from S.out)
    rw [hm]
    unfold badC at hb
    rw [if_pos hb] at S
    clear h hb hi hm S2 hr hn hlim
    go_enter Try.func25, Try.ntmps25
    go_wp2_with (go_at_call 45; refine S.out.mono ?_; rintro e w1 ⟨rfl, rfl⟩)
    go_ret
    exact ⟨rfl, _, _, H.out, MG.refl _ _ _ _⟩
  · have hm : muW C i l = (writeE (C i.toNat) l.length, upd C i.toNat (if writeE (C i.toNat) l.length = 0 then chWrite (C i.toNat) l else C i.toNat)) := by unfold muW; rw [if_neg hb]
    have hi4 : i.toNat < 4 := by unfold badC at hb; omega
    have SW := Lib.hid (mwrite_any w base m (8 * i.toNat) _ _ _ _ (h.side hi4) (hlim _ hi4) A l n cap hn hr hnl)
    rw [hm, hn]
    unfold badC at hb
    rw [if_neg hb] at S
    clear h hb hi hm hr hn hlim
    generalize i.toNat = j at *
    generalize hwe : writeE (C j) n = we at *
    clear hwe
    generalize (if we = 0 then chWrite (C j) l else C j) = cc at *
    go_enter Try.func25, Try.ntmps25
    go_wp2_with (first
      | (go_at_call 45; refine S.out.mono ?_; rintro e w1 ⟨rfl, rfl⟩)
      | (go_at_call 46; refine SW.out.mono ?_; rintro e w1 ⟨rfl, u', k1, k2, k3⟩; have K := Lib.hid (H.out.step hi4 k1 (sdU_u k3) k2 (.inl rfl)); clear k1 k2 k3))
    go_ret
    exact ⟨rfl, _, _, K.out.1, K.out.2⟩

set_option maxHeartbeats 1000000 in
theorem muclose_any (w : World) (base m : Nat) (us vs : Nat → Value) (C : Nat → Ch) (h : MX w base m us vs C) (i : Int) (hi : I64 i) :
    Calls Try.prog 27 #[.pointer (some ⟨m, 0, none⟩), .int .i64 i] w fun e w' => e = .returned (.int .i64 (muC C i).1) ∧ ∃ us' vs', MX w' base m us' vs' (muC C i).2 ∧ MG w w' m us vs us' vs' := by
  have S := Lib.hid (mside_any w m i hi)
  have H := Lib.hid h
  by_cases hb : badC i
  · have hm : muC C i = (100, C) := by unfold muC; rw [if_pos hb]
    rw [hm]
    unfold badC at hb
    rw [if_pos hb] at S
    clear h hb hi hm
    go_enter Try.func27, Try.ntmps27
    go_wp2_with (go_at_call 45; refine S.out.mono ?_; rintro e w1 ⟨rfl, rfl⟩)
    go_ret
    exact ⟨rfl, _, _, H.out, MG.refl _ _ _ _⟩
  · have hm : muC C i = (if (C i.toNat).closed then 102 else 0, upd C i.toNat (chClose (C i.toNat))) := by unfold muC; rw [if_neg hb]
    have hi4 : i.toNat < 4 := by unfold badC at hb; omega
    have SW := Lib.hid (mclose_any w base m (8 * i.toNat) _ _ _ _ (h.side hi4))
    rw [hm]
    unfold badC at hb
    rw [if_neg hb] at S
    clear h hb hi hm
    generalize i.toNat = j at *
    generalize (if (C j).closed = true then (102 : Int) else 0) = we at *
    go_enter Try.func27, Try.ntmps27
    go_wp2_with (first
      | (go_at_call 45; refine S.out.mono ?_; rintro e w1 ⟨rfl, rfl⟩)
      | (go_at_call 47; refine SW.out.mono ?_; rintro e w1 ⟨rfl, k1, k3⟩; have K := Lib.hid (H.out.step hi4 k1 (sdM k3) (.inl rfl) (.inl rfl)); clear k1 k3))
    go_ret
    exact ⟨rfl, _, _, K.out.1, K.out.2⟩

set_option maxHeartbeats 1000000 in
theorem muread_any (w : World) (base m : Nat) (us vs : Nat → Value) (C : Nat → Ch) (h : MX w base m us vs C) (hlim : ∀ i, i < 4 → (C i).came.length ≤ 4096 ∧ (C i).read ≤ 1000000) (i most : Int) (hi : I64 i) (hmo : I64 most) :
    Calls Try.prog 29 #[.pointer (some ⟨m, 0, none⟩), .int .i64 i, .int .i64 most] w fun e w' => ∃ A' c', e = .returned (.slice A' (rdK C i most) c') ∧ OwnB w' w.heap.size 5 (.slice A' (rdK C i most) c') (muR C i most).1 ∧
      ∃ us' vs', MX w' base m us' vs' (muR C i most).2 ∧ MG w w' m us vs us' vs' ∧ ∀ g, (Value.slice A' (rdK C i most) c').ownBlock = some g → ¬ mxS m us' vs' g := by
  have S := Lib.hid (mside_any w m i hi)
  have H := Lib.hid h
  by_cases hb : badC i
  · have hm : muR C i most = ([], C) := by unfold muR; rw [if_pos (.inl hb)]
    have hk : rdK C i most = 0 := by unfold rdK; rw [if_pos (.inl hb)]
    rw [hm, hk]
    unfold badC at hb
    rw [if_pos hb] at S
    clear h hb hi hm hk hlim
    go_enter Try.func29, Try.ntmps29
    go_wp2_with (go_at_call 45; refine S.out.mono ?_; rintro e w1 ⟨rfl, rfl⟩)
    go_ret
    exact ⟨none, 0, rfl, OwnB.nil_ _ _ _, _, _, H.out, MG.refl _ _ _ _, fun g hg => by simp [Value.ownBlock] at hg⟩
  have hi4 : i.toNat < 4 := by unfold badC at hb; omega
  by_cases hm0 : most ≤ 0
  · have hm : muR C i most = ([], C) := by unfold muR; rw [if_pos (.inr hm0)]
    have hk : rdK C i most = 0 := by unfold rdK; rw [if_pos (.inr hm0)]
    rw [hm, hk]
    unfold badC at hb
    rw [if_neg hb] at S
    clear h hb hi hm hk hlim hi4
    generalize i.toNat = j at *
    go_enter Try.func29, Try.ntmps29
    go_wp2_with (go_at_call 45; refine S.out.mono ?_; rintro e w1 ⟨rfl, rfl⟩)
    go_ret
    exact ⟨none, 0, rfl, OwnB.nil_ _ _ _, _, _, H.out, MG.refl _ _ _ _, fun g hg => by simp [Value.ownBlock] at hg⟩
  · have hn : ¬ (badC i ∨ most ≤ 0) := fun e => e.elim hb hm0
    obtain ⟨mo, rfl⟩ : ∃ mo : Nat, most = (mo : Int) := ⟨most.toNat, by omega⟩
    have hm : muR C i mo = ((C i.toNat).came.take (rdK C i mo), upd C i.toNat (chGive (C i.toNat) (rdK C i mo))) := by unfold muR; rw [if_neg hn]
    have hk : min mo (C i.toNat).came.length = rdK C i mo := by unfold rdK; rw [if_neg hn, Int.toNat_natCast]
    have SW := Lib.hid (mgive_any w base m (8 * i.toNat) _ _ _ _ (h.side hi4) (hlim _ hi4).1 (hlim _ hi4).2 mo (by have := hmo.2; omega) _ hk)
    rw [hm]
    unfold badC at hb
    rw [if_neg hb] at S
    clear h hb hi hm hn hlim hmo hk
    generalize rdK C i mo = kk at *
    generalize i.toNat = j at *
    go_enter Try.func29, Try.ntmps29
    go_wp2_with (first
      | (go_at_call 45; refine S.out.mono ?_; rintro e w1 ⟨rfl, rfl⟩)
      | (go_at_call 48; refine SW.out.mono ?_; rintro e w1 ⟨A', c', rfl, o1, v', k1, k2, k3⟩; have O1 := Lib.hid o1; have K := Lib.hid (H.out.step hi4 k1 (sdU_v k3) (.inl rfl) (.inl k2)); have NK := Lib.hid k2; clear o1 k1 k2 k3))
    go_ret
    refine ⟨A', c', rfl, O1.out, _, _, K.out.1, K.out.2, fun g hg hz => ?_⟩
    have hge := (O1.out.lt g hg).1
    rcases hz with rfl | ⟨a, ha, hz⟩
    · have := H.out.cb.lt; omega
    · have L1 := fun x (hx : x < 4) (e : (us x).ownBlock = some g) => ((H.out.ou x hx).lt g e).2
      have L2 := fun x (hx : x < 4) (e : (vs x).ownBlock = some g) => ((H.out.ov x hx).lt g e).2
      by_cases e : a = j
      · subst e
        rw [upd_same, upd_same, NK.out] at hz
        rcases hz with hz | hz
        · have := L1 _ hi4 hz; omega
        · have := L2 _ hi4 hz; omega
      · rw [upd_ne _ _ _ e, upd_ne _ _ _ e] at hz
        rcases hz with hz | hz
        · have := L1 _ ha hz; omega
        · have := L2 _ ha hz; omega

set_option maxHeartbeats 1000000 in
theorem muended_any (w : World) (base m : Nat) (us vs : Nat → Value) (C : Nat → Ch) (h : MX w base m us vs C) (i : Int) (hi : I64 i) :
    Calls Try.prog 37 #[.pointer (some ⟨m, 0, none⟩), .int .i64 i] w fun e w' => e = .returned (.bool (muE C i)) ∧ Dr w w' := by
  have S := Lib.hid (mside_any w m i hi)
  by_cases hb : badC i
  · have hm : muE C i = false := by unfold muE; rw [if_pos hb]
    rw [hm]
    unfold badC at hb
    rw [if_pos hb] at S
    clear h hb hi hm
    go_enter Try.func37, Try.ntmps37
    go_wp2_with (go_at_call 45; refine S.out.mono ?_; rintro e w1 ⟨rfl, rfl⟩)
    go_ret
    exact ⟨rfl, Dr.refl _⟩
  · have hm : muE C i = ((C i.toNat).ended && decide ((C i.toNat).came.length = 0)) := by unfold muE; rw [if_neg hb]
    have hi4 : i.toNat < 4 := by unfold badC at hb; omega
    have hs := h.side hi4
    obtain ⟨VA, vcap, hv, -, -⟩ := hs.ov.shape
    have c7 := hs.at_ (k := 7) rfl
    have c4 := hs.at_ (k := 4) rfl
    rw [hv] at c4
    rw [hm]
    unfold badC at hb
    rw [if_neg hb] at S
    clear h hb hi hm hs hv
    generalize i.toNat = j at *
    generalize (C j).came.length = n at *
    generalize (C j).ended = en at *
    cases en with
    | false =>
      go_enter Try.func37, Try.ntmps37
      go_wp2_with (go_at_call 45; refine S.out.mono ?_; rintro e w1 ⟨rfl, rfl⟩)
      go_ret
      exact ⟨rfl, Dr.refl _⟩
    | true =>
      by_cases h0 : n = 0
      · have h0i : (n : Int) = 0 := by omega
        rw [decide_eq_true h0]
        clear h0
        go_enter Try.func37, Try.ntmps37
        go_wp2_with (go_at_call 45; refine S.out.mono ?_; rintro e w1 ⟨rfl, rfl⟩)
        go_ret
        exact ⟨rfl, Dr.refl _⟩
      · have h0i : ¬ (n : Int) = 0 := by omega
        rw [decide_eq_false h0]
        clear h0
        have h0b : ((n : Int) == 0) = false := beq_eq_false_iff_ne.2 h0i
        go_enter Try.func37, Try.ntmps37
        go_wp2_with (go_at_call 45; refine S.out.mono ?_; rintro e w1 ⟨rfl, rfl⟩)
        go_ret
        exact ⟨rfl, Dr.refl _⟩
end Go.Proofs.Ytajfaplaaafjiaa
