/- The document's Mux in memory; the walks of its New, Close, EndedOf. -/
import Derived.Test.YtajfaplaaafjiaaMxt
namespace Go.Proofs.Ytajfaplaaafjiaa
open Go.RowKit

/-- A channel of the document's: all that was written, how many were sent; closed, told; all that came, how many were read, how many of these are told; the credit; the end. -/
structure Rc where
  wr : List UInt8
  sent : Nat
  cl : Bool
  tl : Bool
  cm : List UInt8
  rd : Nat
  sd : Nat
  cr : Nat
  en : Bool
def rfC (u v : Value) (r : Rc) : List Value := [u, .int .i64 (r.sent : Int), .bool r.cl, .bool r.tl, v, .int .i64 (r.rd : Int), .int .i64 (r.sd : Int), .int .i64 (r.cr : Int), .bool r.en]
def refC (us vs : Nat → Value) (D : Nat → Rc) : List Value := rfC (us 0) (vs 0) (D 0) ++ rfC (us 1) (vs 1) (D 1) ++ rfC (us 2) (vs 2) (D 2) ++ rfC (us 3) (vs 3) (D 3)
structure RX (w : World) (base n : Nat) (us vs : Nat → Value) (D : Nat → Rc) : Prop where
  hb : base ≤ n
  cb : CB w n 92 (refC us vs D)
  ou : ∀ i, i < 4 → OwnB w base 5 (us i) (D i).wr
  ov : ∀ i, i < 4 → OwnB w base 5 (vs i) (D i).cm
def rxS (n : Nat) (us vs : Nat → Value) (z : Nat) : Prop := z = n ∨ ∃ i, i < 4 ∧ ((us i).ownBlock = some z ∨ (vs i).ownBlock = some z)
/-- What a channel of the program's is to one of the document's. -/
structure Rl (c : Ch) (r : Rc) : Prop where
  ws : c.waits = r.wr.drop r.sent
  sl : r.sent ≤ r.wr.length
  cr : c.credit = r.cr
  cl : c.closed = r.cl
  tl : c.told = r.tl
  cm : c.came = r.cm.drop r.rd
  rl : r.rd ≤ r.cm.length
  rd : c.read + r.sd = r.rd
  en : c.ended = r.en
def RlA (C : Nat → Ch) (D : Nat → Rc) : Prop := ∀ i, i < 4 → Rl (C i) (D i)
/-- No more than so many bytes were written, came. -/
def RbA (B : Nat) (D : Nat → Rc) : Prop := ∀ i, i < 4 → (D i).wr.length ≤ B ∧ (D i).cm.length ≤ B
/-- What a call on the document's Mux did. -/
def RG (w w' : World) (n : Nat) (us vs us' vs' : Nat → Value) : Prop := Mod (fun z => z = n) w w' ∧ ∀ z, rxS n us' vs' z → rxS n us vs z ∨ w.heap.size ≤ z

section
variable {w w' : World} {base n i k : Nat} {us vs us' vs' : Nat → Value} {D : Nat → Rc} {r' : Rc} {x u' v' : Value} {S : Nat → Prop} {C : Nat → Ch} {c : Ch} {r : Rc}
theorem refC_over {u v : Value} {r : Rc} (hi : i < 4) : over (refC us vs D) (i * 9) (rfC u v r) = refC (upd us i u) (upd vs i v) (upd D i r) := by
  match i, hi with
  | 0, _ => rfl
  | 1, _ => rfl
  | 2, _ => rfl
  | 3, _ => rfl
  | n + 4, h => omega
theorem refC_self (hi : i < 4) : over (refC us vs D) (i * 9) (rfC (us i) (vs i) (D i)) = refC us vs D := by rw [refC_over hi, upd_self, upd_self, upd_self]
theorem refC_len : (refC us vs D).length = 36 := rfl
theorem RX.at_ (h : RX w base n us vs D) (hi : i < 4) (hx : (rfC (us i) (vs i) (D i))[k]? = some x) : w.cell? ⟨n, i * 9 + k, none⟩ = some x := by
  refine h.cb.at_ ?_
  rw [← refC_self hi]
  exact over_at (by rw [refC_len]; simp [rfC]; omega) hx
theorem RX.mod (h : RX w base n us vs D) (k : Mod S w w') (hs : ∀ z, rxS n us vs z → ¬ S z) : RX w' base n us vs D :=
  ⟨h.hb, h.cb.mod k (hs n (.inl rfl)), fun i hi => (h.ou i hi).mod k (fun g hg => hs g (.inr ⟨i, hi, .inl hg⟩)), fun i hi => (h.ov i hi).mod k (fun g hg => hs g (.inr ⟨i, hi, .inr hg⟩))⟩
theorem RX.made (h : RX w base n us vs D) (k : w.grownBy w' none) : RX w' base n us vs D := h.mod (Mod.made (S := fun _ => False) k) (fun _ _ h => h)
theorem RX.lt (h : RX w base n us vs D) : ∀ k, rxS n us vs k → base ≤ k ∧ k < w.heap.size := by
  intro k hk
  rcases hk with rfl | ⟨i, hi, hk | hk⟩
  · exact ⟨h.hb, h.cb.lt⟩
  · exact (h.ou i hi).lt k hk
  · exact (h.ov i hi).lt k hk
theorem RX.base_ {b : Nat} (h : RX w base n us vs D) (hb : b ≤ base) : RX w b n us vs D := ⟨Nat.le_trans hb h.hb, h.cb, fun i hi => (h.ou i hi).base_ hb, fun i hi => (h.ov i hi).base_ hb⟩
theorem RX.un (h : RX w base n us vs D) (hi : i < 4) : (us i).ownBlock ≠ some n := (h.ou i hi).ne_cells h.cb (by decide)
theorem RX.vn (h : RX w base n us vs D) (hi : i < 4) : (vs i).ownBlock ≠ some n := (h.ov i hi).ne_cells h.cb (by decide)
theorem RG.refl (w : World) (n : Nat) (us vs : Nat → Value) : RG w w n us vs us vs := ⟨Mod.refl _ _, fun _ h => .inl h⟩
theorem RG.of_made (n : Nat) (us vs : Nat → Value) (h : w.grownBy w' none) : RG w w' n us vs us vs := ⟨Mod.made h, fun _ h => .inl h⟩
theorem RG.trans {w2 : World} {us2 vs2 : Nat → Value} (h : RG w w' n us vs us' vs') (k : RG w' w2 n us' vs' us2 vs2) : RG w w2 n us vs us2 vs2 := by
  refine ⟨h.1.next k.1 (fun i hi hs => hs), fun z hz => ?_⟩
  rcases k.2 z hz with e | e
  · exact h.2 z e
  · exact .inr (Nat.le_trans h.1.size e)
theorem RG.set (n j : Nat) (x : Value) (us vs : Nat → Value) : RG w (w.setCell ⟨n, j, none⟩ x) n us vs us vs := ⟨(Mod.of_grown (grownC_set w n j x)).mono (fun k _ e => by injection e), fun _ h => .inl h⟩
/-- One field that isn't a slice is written. -/
theorem RX.put (h : RX w base n us vs D) (hi : i < 4) (k : Nat) (x : Value) (r' : Rc) (hk : k < 9) (hc : (rfC (us i) (vs i) (D i)).set k x = rfC (us i) (vs i) r') (h1 : r'.wr = (D i).wr) (h2 : r'.cm = (D i).cm) :
    RX (w.setCell ⟨n, i * 9 + k, none⟩ x) base n us vs (upd D i r') := by
  have hg := grownC_set w n (i * 9 + k) x
  refine ⟨h.hb, ?_, fun j hj => ?_, fun j hj => ?_⟩
  · have e : refC us vs (upd D i r') = (refC us vs D).set (i * 9 + k) x := by
      conv => rhs; rw [← refC_self (us := us) (vs := vs) (D := D) hi]
      rw [over_set (by rw [refC_len]; simp [rfC]; omega) (by simpa [rfC] using hk), hc, refC_over hi, upd_self, upd_self]
    rw [e]
    exact h.cb.set_ _ _
  · have := (h.ou j hj).mod (Mod.of_grown hg) (fun g hu e => h.un hj (by rw [hu, ← e]))
    by_cases e : j = i
    · subst e; rw [upd_same, h1]; exact this
    · rw [upd_ne _ _ _ e]; exact this
  · have := (h.ov j hj).mod (Mod.of_grown hg) (fun g hu e => h.vn hj (by rw [hu, ← e]))
    by_cases e : j = i
    · subst e; rw [upd_same, h2]; exact this
    · rw [upd_ne _ _ _ e]; exact this
/-- What was written is another row. -/
theorem RX.putU (h : RX w base n us vs D) (hi : i < 4) {l : List UInt8} (ho : OwnB w base 5 u' l) (r' : Rc) (hc : (rfC (us i) (vs i) (D i)).set 0 u' = rfC u' (vs i) r') (h1 : r'.wr = l) (h2 : r'.cm = (D i).cm) :
    RX (w.setCell ⟨n, i * 9, none⟩ u') base n (upd us i u') vs (upd D i r') := by
  have hg := grownC_set w n (i * 9) u'
  refine ⟨h.hb, ?_, fun j hj => ?_, fun j hj => ?_⟩
  · have e : refC (upd us i u') vs (upd D i r') = (refC us vs D).set (i * 9 + 0) u' := by
      conv => rhs; rw [← refC_self (us := us) (vs := vs) (D := D) hi]
      rw [over_set (by rw [refC_len]; simp [rfC]; omega) (by simp [rfC]), hc, refC_over hi, upd_self]
    rw [e]
    exact h.cb.set_ _ _
  · by_cases e : j = i
    · subst e
      rw [upd_same, upd_same, h1]
      exact ho.mod (Mod.of_grown hg) (fun g hu e => ho.ne_cells h.cb (by decide) (by rw [hu, ← e]))
    · rw [upd_ne _ _ _ e, upd_ne _ _ _ e]
      exact (h.ou j hj).mod (Mod.of_grown hg) (fun g hu e => h.un hj (by rw [hu, ← e]))
  · have := (h.ov j hj).mod (Mod.of_grown hg) (fun g hu e => h.vn hj (by rw [hu, ← e]))
    by_cases e : j = i
    · subst e; rw [upd_same, h2]; exact this
    · rw [upd_ne _ _ _ e]; exact this
theorem RX.putV (h : RX w base n us vs D) (hi : i < 4) {l : List UInt8} (ho : OwnB w base 5 v' l) (r' : Rc) (hc : (rfC (us i) (vs i) (D i)).set 4 v' = rfC (us i) v' r') (h1 : r'.wr = (D i).wr) (h2 : r'.cm = l) :
    RX (w.setCell ⟨n, i * 9 + 4, none⟩ v') base n us (upd vs i v') (upd D i r') := by
  have hg := grownC_set w n (i * 9 + 4) v'
  refine ⟨h.hb, ?_, fun j hj => ?_, fun j hj => ?_⟩
  · have e : refC us (upd vs i v') (upd D i r') = (refC us vs D).set (i * 9 + 4) v' := by
      conv => rhs; rw [← refC_self (us := us) (vs := vs) (D := D) hi]
      rw [over_set (by rw [refC_len]; simp [rfC]; omega) (by simp [rfC]), hc, refC_over hi, upd_self]
    rw [e]
    exact h.cb.set_ _ _
  · have := (h.ou j hj).mod (Mod.of_grown hg) (fun g hu e => h.un hj (by rw [hu, ← e]))
    by_cases e : j = i
    · subst e; rw [upd_same, h1]; exact this
    · rw [upd_ne _ _ _ e]; exact this
  · by_cases e : j = i
    · subst e
      rw [upd_same, upd_same, h2]
      exact ho.mod (Mod.of_grown hg) (fun g hu e => ho.ne_cells h.cb (by decide) (by rw [hu, ← e]))
    · rw [upd_ne _ _ _ e, upd_ne _ _ _ e]
      exact (h.ov j hj).mod (Mod.of_grown hg) (fun g hu e => h.vn hj (by rw [hu, ← e]))
theorem rxS_updU {z : Nat} (hz : rxS n (upd us i u') vs z) : rxS n us vs z ∨ u'.ownBlock = some z := by
  rcases hz with rfl | ⟨j, hj, hz⟩
  · exact .inl (.inl rfl)
  · by_cases e : j = i
    · subst e
      rw [upd_same] at hz
      rcases hz with hz | hz
      · exact .inr hz
      · exact .inl (.inr ⟨j, hj, .inr hz⟩)
    · rw [upd_ne _ _ _ e] at hz
      exact .inl (.inr ⟨j, hj, hz⟩)
theorem rxS_updV {z : Nat} (hz : rxS n us (upd vs i v') z) : rxS n us vs z ∨ v'.ownBlock = some z := by
  rcases hz with rfl | ⟨j, hj, hz⟩
  · exact .inl (.inl rfl)
  · by_cases e : j = i
    · subst e
      rw [upd_same] at hz
      rcases hz with hz | hz
      · exact .inl (.inr ⟨j, hj, .inl hz⟩)
      · exact .inr hz
    · rw [upd_ne _ _ _ e] at hz
      exact .inl (.inr ⟨j, hj, hz⟩)
theorem RlA.upd_ (h : RlA C D) {c : Ch} {r : Rc} (k : Rl c r) (i : Nat) : RlA (upd C i c) (upd D i r) := by
  intro j hj
  unfold upd
  split
  · exact k
  · exact h j hj
theorem RbA.upd_ {B B' : Nat} (h : RbA B D) (hB : B ≤ B') (k : r.wr.length ≤ B' ∧ r.cm.length ≤ B') (i : Nat) : RbA B' (upd D i r) := by
  intro j hj
  unfold upd
  split
  · exact k
  · exact ⟨Nat.le_trans (h j hj).1 hB, Nat.le_trans (h j hj).2 hB⟩
theorem Rl.room (h : Rl c r) (l : Lim c) : c.room + r.cm.length = 1024 + r.sd ∧ r.cm.length - r.sd ≤ 1024 ∧ r.sd ≤ r.cm.length := by
  have h1 := l.rm
  have h2 := h.cm
  have h3 := h.rl
  have h4 := h.rd
  rw [h2, List.length_drop] at h1
  omega
theorem Rl.wait (h : Rl c r) : c.waits.length = r.wr.length - r.sent := by rw [h.ws, List.length_drop]
theorem Rl.cam (h : Rl c r) : c.came.length = r.cm.length - r.rd := by rw [h.cm, List.length_drop]
end

def rc0 : Rc := ⟨[], 0, false, false, [], 0, 0, 1024, false⟩
def rcZ : Rc := ⟨[], 0, false, false, [], 0, 0, 0, false⟩
def newR (k i : Nat) : Rc := if i < k then rc0 else rcZ
theorem buildR (w : World) : (Instr.build 92 #[]).run Try.prog w = .ok (.agg (refC nilV nilV (newR 0)).toArray) w := by kernel_rfl
theorem RX.new0 {w' : World} {base n k : Nat} (hb : base ≤ n) (h : CB w' n 92 (refC nilV nilV (newR k))) : RX w' base n nilV nilV (newR k) :=
  ⟨hb, h, fun i _ => by unfold newR; split <;> exact OwnB.nil_ _ _ _, fun i _ => by unfold newR; split <;> exact OwnB.nil_ _ _ _⟩
theorem newR_upd {k : Nat} : upd (newR k) k rc0 = newR (k + 1) := by
  funext j
  unfold upd newR
  by_cases e : j = k
  · subst e; rw [if_pos rfl, if_pos (by omega)]
  · rw [if_neg e]
    by_cases e2 : j < k
    · rw [if_pos e2, if_pos (by omega)]
    · rw [if_neg e2, if_neg (by omega)]
set_option maxRecDepth 100000 in
set_option maxHeartbeats 2000000 in
theorem rnew_any (w : World) :
    Calls Try.prog 22 #[] w fun e w' => ∃ n, e = .returned (.pointer (some ⟨n, 0, none⟩)) ∧ w.heap.size ≤ n ∧ RX w' w.heap.size n nilV nilV (newR 4) ∧ w.grownBy w' none := by
  go_enter Try.func22, Try.ntmps22
  go_wp2
  go_loopw [2] (fun i wr => ∃ k : Nat, i = .int .i64 k ∧ k ≤ 4 ∧ RX wr w.heap.size w.heap.size nilV nilV (newR k) ∧ w.grownBy wr none) (fun i _ => 4 - (intOf i).toNat)
  case atStart => exact ⟨0, rfl, by omega, RX.new0 (Nat.le_refl _) (CB.new w 92 (refC nilV nilV (newR 0))), grown_alloc _ _ _⟩
  case round =>
    obtain ⟨k, rfl, hk, hx, hg⟩ := hrel
    by_cases hlt : k < 4
    · have hki : (k : Int) < 4 := by omega
      have f7 := hx.cb.free (k * 9 + 7)
      have c7 := hx.at_ hlt (k := 7) (x := .int .i64 0) (by unfold newR; rw [if_neg (Nat.lt_irrefl _)]; rfl)
      have P := Lib.hid (hx.put hlt 7 (.int .i64 1024) rc0 (by omega) (by unfold newR; rw [if_neg (Nat.lt_irrefl _)]; rfl) (by unfold newR; rw [if_neg (Nat.lt_irrefl _)]; rfl) (by unfold newR; rw [if_neg (Nat.lt_irrefl _)]; rfl))
      rw [newR_upd] at P
      have G := Lib.hid (none_new hg (grownC_set wr w.heap.size (k * 9 + 7) (.int .i64 1024)) (Nat.le_refl _))
      clear hx hg
      go_wp2
      go_roundw
      case rel => exact ⟨k + 1, by go_num, by omega, P.out, G.out⟩
      case measure => simp [intOf]; omega
    · have hk4 : k = 4 := by omega
      subst hk4
      go_wp2
      go_ret
      exact ⟨_, rfl, Nat.le_refl _, hx, hg⟩

/-- What every call on the document's Mux answers: where it stands, and what it is to the program's. -/
def RA (w w' : World) (base n : Nat) (us vs : Nat → Value) (C' : Nat → Ch) (B' : Nat) : Prop :=
  ∃ us' vs' D', RX w' base n us' vs' D' ∧ RlA C' D' ∧ RbA B' D' ∧ RG w w' n us vs us' vs'
section
variable {w w' : World} {base n i : Nat} {us vs : Nat → Value} {D : Nat → Rc} {C : Nat → Ch} {B : Nat}
theorem RA.refl (h : RX w base n us vs D) (r : RlA C D) (b : RbA B D) : RA w w base n us vs C B := ⟨us, vs, D, h, r, b, RG.refl _ _ _ _⟩
theorem RA.made (h : RX w base n us vs D) (r : RlA C D) (b : RbA B D) (g : w.grownBy w' none) : RA w w' base n us vs C B := ⟨us, vs, D, h.made g, r, b, RG.of_made _ _ _ g⟩
/-- A field that isn't a slice was written. -/
theorem RA.put (h : RX w base n us vs D) (r : RlA C D) (b : RbA B D) (hi : i < 4) (k : Nat) (x : Value) (r' : Rc) (c' : Ch) (hk : k < 9) (hc : (rfC (us i) (vs i) (D i)).set k x = rfC (us i) (vs i) r') (h1 : r'.wr = (D i).wr) (h2 : r'.cm = (D i).cm) (hr : Rl c' r') :
    RA w (w.setCell ⟨n, i * 9 + k, none⟩ x) base n us vs (upd C i c') B :=
  ⟨us, vs, _, h.put hi k x r' hk hc h1 h2, r.upd_ hr i, b.upd_ (Nat.le_refl _) (by rw [h1, h2]; exact b i hi) i, RG.set _ _ _ _ _⟩
end

set_option maxHeartbeats 1000000 in
theorem rclose_any (w : World) (base n : Nat) (us vs : Nat → Value) (D : Nat → Rc) (C : Nat → Ch) (B : Nat) (h : RX w base n us vs D) (hr : RlA C D) (hB : RbA B D) (i : Int) (hi : I64 i) :
    Calls Try.prog 28 #[.pointer (some ⟨n, 0, none⟩), .int .i64 i] w fun e w' => e = .returned (.int .i64 (muC C i).1) ∧ RA w w' base n us vs (muC C i).2 B := by
  by_cases hb : badC i
  · have hm : muC C i = (100, C) := by unfold muC; rw [if_pos hb]
    have H := Lib.hid (RA.refl h hr hB)
    rw [hm]
    unfold badC at hb
    clear h hr hB hm
    by_cases h0 : i < 0
    · clear hb
      go_enter Try.func28, Try.ntmps28
      go_wp2
      go_ret
      exact ⟨rfl, H.out⟩
    · have h3 : (3 : Int) < i := by omega
      clear hb
      go_enter Try.func28, Try.ntmps28
      go_wp2
      go_ret
      exact ⟨rfl, H.out⟩
  · have hm : muC C i = (if (C i.toNat).closed then 102 else 0, upd C i.toNat (chClose (C i.toNat))) := by unfold muC; rw [if_neg hb]
    have hi4 : i.toNat < 4 := badC_lt hb
    obtain ⟨j, rfl⟩ : ∃ j : Nat, i = (j : Int) := ⟨i.toNat, by unfold badC at hb; omega⟩
    rw [Int.toNat_natCast] at hm hi4
    have h0 : ¬ (j : Int) < 0 := by omega
    have h3 : ¬ (3 : Int) < (j : Int) := by omega
    have h4 : (j : Int) < 4 := by omega
    have c2 := h.at_ hi4 (k := 2) rfl
    have f2 := h.cb.free (j * 9 + 2)
    rw [hm]
    have hrj := hr j hi4
    cases hcl : (D j).cl with
    | true =>
      rw [hcl] at c2
      have hcc : (C j).closed = true := hrj.cl.trans hcl
      have he : chClose (C j) = C j := by
        unfold chClose
        rw [show C j = { C j with closed := (C j).closed } from rfl, hcc]
      rw [he, upd_self, hcc]
      have H := Lib.hid (RA.refl h hr hB)
      clear h hr hB hm hrj hcl hcc he hb hi4
      go_enter Try.func28, Try.ntmps28
      go_wp2
      go_ret
      exact ⟨rfl, H.out⟩
    | false =>
      rw [hcl] at c2
      have hcc : (C j).closed = false := hrj.cl.trans hcl
      rw [hcc]
      have H := Lib.hid (RA.put h hr hB hi4 2 (.bool true) { D j with cl := true } (chClose (C j)) (by omega) rfl rfl rfl ⟨hrj.ws, hrj.sl, hrj.cr, rfl, hrj.tl, hrj.cm, hrj.rl, hrj.rd, hrj.en⟩)
      clear h hr hB hm hrj hcl hcc hb hi4
      go_enter Try.func28, Try.ntmps28
      go_wp2
      go_ret
      exact ⟨rfl, H.out⟩

set_option maxHeartbeats 2000000 in
theorem rended_any (w : World) (base n : Nat) (us vs : Nat → Value) (D : Nat → Rc) (C : Nat → Ch) (h : RX w base n us vs D) (hr : RlA C D) (i : Int) (_ : I64 i) :
    Calls Try.prog 38 #[.pointer (some ⟨n, 0, none⟩), .int .i64 i] w fun e w' => e = .returned (.bool (muE C i)) ∧ Dr w w' := by
  by_cases hb : badC i
  · have hm : muE C i = false := by unfold muE; rw [if_pos hb]
    rw [hm]
    unfold badC at hb
    clear h hr hm
    by_cases h0 : i < 0
    · have h0n : decide (0 ≤ i) = false := decide_eq_false (by omega)
      clear hb
      go_enter Try.func38, Try.ntmps38
      go_wp2
      go_quiet (fail)
      go_wp2
      go_ret
      exact ⟨rfl, nq, rfl⟩
    · have h3 : decide (i ≤ 3) = false := decide_eq_false (by omega)
      have h0n : decide (0 ≤ i) = true := decide_eq_true (by omega)
      clear hb
      go_enter Try.func38, Try.ntmps38
      go_wp2
      go_quiet (fail)
      go_wp2
      go_ret
      exact ⟨rfl, nq, rfl⟩
  · have hi4 : i.toNat < 4 := badC_lt hb
    obtain ⟨j, rfl⟩ : ∃ j : Nat, i = (j : Int) := ⟨i.toNat, by unfold badC at hb; omega⟩
    rw [Int.toNat_natCast] at hi4
    have hrj := hr j hi4
    have hm : muE C j = ((D j).en && decide ((D j).rd = (D j).cm.length)) := by
      unfold muE
      rw [if_neg hb, Int.toNat_natCast, hrj.en, hrj.cam]
      congr 1
      rw [decide_eq_decide]
      have := hrj.rl
      omega
    have h0 : decide ((0 : Int) ≤ (j : Int)) = true := decide_eq_true (by omega)
    have h3 : decide ((j : Int) ≤ 3) = true := decide_eq_true (by omega)
    have h4 : (j : Int) < 4 := by omega
    obtain ⟨V, cv, hv, -, -⟩ := (h.ov j hi4).shape
    have c8 := h.at_ hi4 (k := 8) rfl
    have c5 := h.at_ hi4 (k := 5) rfl
    have c4 := h.at_ hi4 (k := 4) rfl
    rw [hv] at c4
    rw [hm]
    clear h hr hm hrj hb hi4 hv
    generalize (D j).en = en at *
    generalize (D j).rd = rd at *
    generalize (D j).cm.length = ln at *
    cases en with
    | false =>
      go_enter Try.func38, Try.ntmps38
      go_wp2
      go_quiet (fail)
      go_wp2
      go_ret
      exact ⟨rfl, nq, rfl⟩
    | true =>
      by_cases he : rd = ln
      · subst he
        rw [decide_eq_true rfl]
        go_enter Try.func38, Try.ntmps38
        go_wp2
        go_quiet (fail)
        go_wp2
        go_ret
        exact ⟨rfl, nq, rfl⟩
      · rw [decide_eq_false he]
        have hei : ¬ (rd : Int) = (ln : Int) := by omega
        have heb : ((rd : Int) == (ln : Int)) = false := beq_eq_false_iff_ne.2 hei
        clear he
        go_enter Try.func38, Try.ntmps38
        go_wp2
        go_quiet (fail)
        go_wp2
        go_ret
        exact ⟨rfl, nq, rfl⟩
end Go.Proofs.Ytajfaplaaafjiaa
