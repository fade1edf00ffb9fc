/- A whole Mux in memory; the walks of side, grant, New. -/
import Derived.Test.YtajfaplaaafjiaaMxe
namespace Go.Proofs.Ytajfaplaaafjiaa
open Go.RowKit

set_option maxHeartbeats 2000000 in
theorem mgrant_any (w : World) (base m o : Nat) (cs : List Value) (u v : Value) (c : Ch) (h : SD w base m o cs u v c) (h1 : c.room ≤ 1000000) (h2 : c.read ≤ 1000000) :
    Calls Try.prog 53 #[.pointer (some ⟨m, o, none⟩)] w fun e w' => e = .returned (.int .i64 c.read) ∧ SD w' base m o cs u v (chGrant c) ∧ w.grownBy w' (some m) := by
  have c5 := h.at_ (k := 5) rfl
  have c6 := h.at_ (k := 6) rfl
  have f5 := h.cb.free (o + 5)
  have f6 := h.cb.free (o + 6)
  have hw1 : IntKind.i64.wrap ((c.room : Int) + (c.read : Int)) = ((c.room + c.read : Nat) : Int) := by simp [IntKind.wrap, IntKind.bits, IntKind.signed]; omega
  have P := Lib.hid (h.put 5 (.int .i64 ((c.room + c.read : Nat) : Int)) { c with room := c.room + c.read } (by omega) rfl rfl rfl)
  have PP := Lib.hid (P.out.1.put 6 (.int .i64 0) (chGrant c) (by omega) rfl rfl rfl)
  clear h
  generalize c.room + c.read = z at *
  generalize hx : c.room = x at *
  generalize hy : c.read = y at *
  clear hx hy
  go_enter Try.func53, Try.ntmps53
  go_wp2
  go_ret
  exact ⟨rfl, PP.out.1, grown_trans' P.out.2 PP.out.2⟩

/-! A Mux. -/
def muxC (us vs : Nat → Value) (C : Nat → Ch) : List Value := sideC (us 0) (vs 0) (C 0) ++ sideC (us 1) (vs 1) (C 1) ++ sideC (us 2) (vs 2) (C 2) ++ sideC (us 3) (vs 3) (C 3)
def upd {α : Type} (f : Nat → α) (i : Nat) (x : α) (j : Nat) : α := if j = i then x else f j
theorem upd_same {α : Type} (f : Nat → α) (i : Nat) (x : α) : upd f i x i = x := if_pos rfl
theorem upd_ne {α : Type} (f : Nat → α) (i : Nat) (x : α) {j : Nat} (h : j ≠ i) : upd f i x j = f j := if_neg h

/-- The Mux at m: its rows, each its own, and what its channels are. -/
structure MX (w : World) (base m : Nat) (us vs : Nat → Value) (C : Nat → Ch) : Prop where
  hb : base ≤ m
  cb : CB w m 87 (muxC us vs C)
  ou : ∀ i, i < 4 → OwnB w base 5 (us i) (C i).waits
  ov : ∀ i, i < 4 → OwnB w base 5 (vs i) (C i).came
  uu : ∀ i j g, i < 4 → j < 4 → (us i).ownBlock = some g → (us j).ownBlock = some g → i = j
  vv : ∀ i j g, i < 4 → j < 4 → (vs i).ownBlock = some g → (vs j).ownBlock = some g → i = j
  uv : ∀ i j g, i < 4 → j < 4 → (us i).ownBlock = some g → (vs j).ownBlock ≠ some g

/-- What a Mux writes. -/
def mxS (m : Nat) (us vs : Nat → Value) (k : Nat) : Prop := k = m ∨ ∃ i, i < 4 ∧ ((us i).ownBlock = some k ∨ (vs i).ownBlock = some k)
def sdS (m : Nat) (u v : Value) (z : Nat) : Prop := z = m ∨ u.ownBlock = some z ∨ v.ownBlock = some z

section
variable {w w' : World} {base m i : Nat} {us vs : Nat → Value} {C : Nat → Ch} {u' v' : Value} {c' : Ch}
theorem muxC_over (hi : i < 4) : over (muxC us vs C) (8 * i) (sideC (us i) (vs i) (C i)) = muxC us vs C := by
  match i, hi with
  | 0, _ => rfl
  | 1, _ => rfl
  | 2, _ => rfl
  | 3, _ => rfl
  | n + 4, h => omega
theorem muxC_upd (hi : i < 4) : over (muxC us vs C) (8 * i) (sideC u' v' c') = muxC (upd us i u') (upd vs i v') (upd C i c') := by
  match i, hi with
  | 0, _ => rfl
  | 1, _ => rfl
  | 2, _ => rfl
  | 3, _ => rfl
  | n + 4, h => omega
theorem MX.side (h : MX w base m us vs C) (hi : i < 4) : SD w base m (8 * i) (muxC us vs C) (us i) (vs i) (C i) :=
  ⟨h.hb, by simp [muxC, sideC]; omega, by rw [muxC_over hi]; exact h.cb, h.ou i hi, h.ov i hi, fun g hu => h.uv i i g hi hi hu⟩
theorem MX.um (h : MX w base m us vs C) (hi : i < 4) : (us i).ownBlock ≠ some m := (h.side hi).um
theorem MX.vm (h : MX w base m us vs C) (hi : i < 4) : (vs i).ownBlock ≠ some m := (h.side hi).vm
theorem MX.mod {S : Nat → Prop} (h : MX w base m us vs C) (k : Mod S w w') (hs : ∀ z, mxS m us vs z → ¬ S z) : MX w' base m us vs C :=
  ⟨h.hb, h.cb.mod k (hs m (.inl rfl)), fun i hi => (h.ou i hi).mod k (fun g hg => hs g (.inr ⟨i, hi, .inl hg⟩)), fun i hi => (h.ov i hi).mod k (fun g hg => hs g (.inr ⟨i, hi, .inr hg⟩)), h.uu, h.vv, h.uv⟩
theorem MX.made (h : MX w base m us vs C) (k : w.grownBy w' none) : MX w' base m us vs C := h.mod (Mod.made (S := fun _ => False) k) (fun _ _ h => h)
theorem MX.lt (h : MX w base m us vs C) : ∀ k, mxS m us vs k → base ≤ k ∧ k < w.heap.size := by
  intro k hk
  rcases hk with rfl | ⟨i, hi, hk | hk⟩
  · exact ⟨h.hb, h.cb.lt⟩
  · exact (h.ou i hi).lt k hk
  · exact (h.ov i hi).lt k hk
theorem sdS_mxS (hi : i < 4) {z : Nat} (h : sdS m (us i) (vs i) z) : mxS m us vs z := h.imp id fun h => ⟨i, hi, h⟩
theorem NewB.lt_ {u u' : Value} (h : NewB w u u') {g : Nat} (hg : u'.ownBlock = some g) : u.ownBlock = some g ∨ g = w.heap.size := by
  rcases h with e | e
  · exact .inl (by rw [← e]; exact hg)
  · rw [e] at hg; injection hg with hg; exact .inr hg.symm
/-- A side was changed: the Mux with that channel another one. -/
theorem MX.back (h : MX w base m us vs C) (hi : i < 4) (k : SD w' base m (8 * i) (muxC us vs C) u' v' c') (hM : Mod (sdS m (us i) (vs i)) w w') (nu : NewB w (us i) u') (nv : NewB w (vs i) v') :
    MX w' base m (upd us i u') (upd vs i v') (upd C i c') := by
  have hsz := hM.size
  have Lu : ∀ j g, j < 4 → (us j).ownBlock = some g → g < w.heap.size := fun j g hj hg => ((h.ou j hj).lt g hg).2
  have Lv : ∀ j g, j < 4 → (vs j).ownBlock = some g → g < w.heap.size := fun j g hj hg => ((h.ov j hj).lt g hg).2
  have Nu : ∀ g, u'.ownBlock = some g → (us i).ownBlock = some g ∨ g = w.heap.size := fun g hg => nu.lt_ hg
  have Nv : ∀ g, v'.ownBlock = some g → (vs i).ownBlock = some g ∨ g = w.heap.size := fun g hg => nv.lt_ hg
  refine ⟨h.hb, by rw [← muxC_upd hi]; exact k.cb, fun j hj => ?_, fun j hj => ?_, fun a b g ha hb h1 h2 => ?_, fun a b g ha hb h1 h2 => ?_, fun a b g ha hb h1 h2 => ?_⟩
  · by_cases e : j = i
    · subst e; simp only [upd_same]; exact k.ou
    · simp only [upd_ne _ _ _ e]
      refine (h.ou j hj).mod hM (fun g hg hs => ?_)
      rcases hs with rfl | hs | hs
      · exact h.um hj hg
      · exact e (h.uu j i g hj hi hg hs)
      · exact h.uv j i g hj hi hg hs
  · by_cases e : j = i
    · subst e; simp only [upd_same]; exact k.ov
    · simp only [upd_ne _ _ _ e]
      refine (h.ov j hj).mod hM (fun g hg hs => ?_)
      rcases hs with rfl | hs | hs
      · exact h.vm hj hg
      · exact h.uv i j g hi hj hs hg
      · exact e (h.vv j i g hj hi hg hs)
  · by_cases ea : a = i <;> by_cases eb : b = i
    · rw [ea, eb]
    · subst ea
      rw [upd_same] at h1
      rw [upd_ne _ _ _ eb] at h2
      rcases Nu g h1 with h1 | h1
      · exact h.uu a b g ha hb h1 h2
      · have := Lu b g hb h2; omega
    · subst eb
      rw [upd_same] at h2
      rw [upd_ne _ _ _ ea] at h1
      rcases Nu g h2 with h2 | h2
      · exact h.uu a b g ha hb h1 h2
      · have := Lu a g ha h1; omega
    · rw [upd_ne _ _ _ ea] at h1
      rw [upd_ne _ _ _ eb] at h2
      exact h.uu a b g ha hb h1 h2
  · by_cases ea : a = i <;> by_cases eb : b = i
    · rw [ea, eb]
    · subst ea
      rw [upd_same] at h1
      rw [upd_ne _ _ _ eb] at h2
      rcases Nv g h1 with h1 | h1
      · exact h.vv a b g ha hb h1 h2
      · have := Lv b g hb h2; omega
    · subst eb
      rw [upd_same] at h2
      rw [upd_ne _ _ _ ea] at h1
      rcases Nv g h2 with h2 | h2
      · exact h.vv a b g ha hb h1 h2
      · have := Lv a g ha h1; omega
    · rw [upd_ne _ _ _ ea] at h1
      rw [upd_ne _ _ _ eb] at h2
      exact h.vv a b g ha hb h1 h2
  · by_cases ea : a = i <;> by_cases eb : b = i
    · subst ea eb
      rw [upd_same] at h1 h2
      exact k.ap g h1 h2
    · subst ea
      rw [upd_same] at h1
      rw [upd_ne _ _ _ eb] at h2
      rcases Nu g h1 with h1 | h1
      · exact h.uv a b g ha hb h1 h2
      · have := Lv b g hb h2; omega
    · subst eb
      rw [upd_same] at h2
      rw [upd_ne _ _ _ ea] at h1
      rcases Nv g h2 with h2 | h2
      · exact h.uv a b g ha hb h1 h2
      · have := Lu a g ha h1; omega
    · rw [upd_ne _ _ _ ea] at h1
      rw [upd_ne _ _ _ eb] at h2
      exact h.uv a b g ha hb h1 h2
/-- The rows that a changed Mux has are old ones of its own or new. -/
theorem mxS_upd (h : MX w base m us vs C) (hi : i < 4) (nu : NewB w (us i) u') (nv : NewB w (vs i) v') {z : Nat} (hz : mxS m (upd us i u') (upd vs i v') z) : mxS m us vs z ∨ w.heap.size ≤ z := by
  rcases hz with rfl | ⟨j, hj, hz⟩
  · exact .inl (.inl rfl)
  · by_cases e : j = i
    · subst e
      rw [upd_same, upd_same] at hz
      rcases hz with hz | hz
      · rcases nu.lt_ hz with hz | hz
        · exact .inl (.inr ⟨j, hj, .inl hz⟩)
        · exact .inr (by omega)
      · rcases nv.lt_ hz with hz | hz
        · exact .inl (.inr ⟨j, hj, .inr hz⟩)
        · exact .inr (by omega)
    · rw [upd_ne _ _ _ e, upd_ne _ _ _ e] at hz
      exact .inl (.inr ⟨j, hj, hz⟩)
end
theorem muxC_at {us vs : Nat → Value} {C : Nat → Ch} {i k : Nat} {x : Value} (hi : i < 4) (hx : (sideC (us i) (vs i) (C i))[k]? = some x) : (muxC us vs C)[8 * i + k]? = some x := by
  rw [← muxC_over hi]
  exact over_at (by simp [muxC, sideC]; omega) hx

set_option maxHeartbeats 1000000 in
theorem mside_any (w : World) (m : Nat) (i : Int) (hi : I64 i) :
    Calls Try.prog 45 #[.pointer (some ⟨m, 0, none⟩), .int .i64 i] w fun e w' => e = .returned (.pointer (if i < 0 ∨ 4 ≤ i then none else some ⟨m, 8 * i.toNat, none⟩)) ∧ w' = w := by
  obtain ⟨h1, h2⟩ := hi
  by_cases ha : i < 0
  · rw [if_pos (.inl ha)]
    go_enter Try.func45, Try.ntmps45
    go_wp2
    go_ret
    exact ⟨rfl, rfl⟩
  by_cases hb : 4 ≤ i
  · rw [if_pos (.inr hb)]
    go_enter Try.func45, Try.ntmps45
    go_wp2
    go_ret
    exact ⟨rfl, rfl⟩
  · rw [if_neg (by omega)]
    obtain ⟨n, rfl⟩ : ∃ n : Nat, i = (n : Int) := ⟨i.toNat, by omega⟩
    have hn : n < 4 := by omega
    have hni : ¬ (n : Int) < 0 := by omega
    rw [Int.toNat_natCast]
    go_enter Try.func45, Try.ntmps45
    go_wp2
    go_ret
    exact ⟨by first | rfl | (rw [Nat.mul_comm]; rfl), rfl⟩
end Go.Proofs.Ytajfaplaaafjiaa
