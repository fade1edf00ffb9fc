/- One side of one channel in memory, and the walks of what it is asked. -/
import Derived.Test.YtajfaplaaafjiaaMxa
import Derived.Test.YtajfaplaaafjiaaFre
namespace Go.Proofs.Ytajfaplaaafjiaa
open Go.RowKit

/-- One side of one channel: what waits, how many may go; closed, told; what came, room, read, ended. -/
structure Ch where
  waits : List UInt8
  credit : Nat
  closed : Bool
  told : Bool
  came : List UInt8
  room : Nat
  read : Nat
  ended : Bool

/-- Its cells. -/
def sideC (u v : Value) (c : Ch) : List Value := [u, .int .i64 (c.credit : Int), .bool c.closed, .bool c.told, v, .int .i64 (c.room : Int), .int .i64 (c.read : Int), .bool c.ended]

theorem over_at {cs p : List Value} {o k : Nat} {x : Value} (hl : o + p.length ≤ cs.length) (hx : p[k]? = some x) : (over cs o p)[o + k]? = some x := by
  have hk : k < p.length := (List.getElem?_eq_some_iff.1 hx).1
  have ht : (cs.take o).length = o := by rw [List.length_take]; omega
  unfold over
  rw [List.append_assoc, List.getElem?_append_right (by omega), ht, show o + k - o = k by omega, List.getElem?_append_left hk, hx]
theorem over_set {cs p : List Value} {o k : Nat} {x : Value} (hl : o + p.length ≤ cs.length) (hk : k < p.length) : (over cs o p).set (o + k) x = over cs o (p.set k x) := by
  have ht : (cs.take o).length = o := by rw [List.length_take]; omega
  unfold over
  rw [List.append_assoc, List.set_append_right _ _ (by omega), ht, show o + k - o = k by omega, List.set_append_left _ _ hk, List.length_set, List.append_assoc]

/-- The side at ⟨m, o⟩, in a block whose other cells are as cs has them. -/
structure SD (w : World) (base m o : Nat) (cs : List Value) (u v : Value) (c : Ch) : Prop where
  hb : base ≤ m
  hl : o + 8 ≤ cs.length
  cb : CB w m 87 (over cs o (sideC u v c))
  ou : OwnB w base 5 u c.waits
  ov : OwnB w base 5 v c.came
  ap : ∀ g, u.ownBlock = some g → v.ownBlock ≠ some g

section
variable {w w' : World} {base m o : Nat} {cs : List Value} {u v : Value} {c : Ch}
theorem SD.at_ (h : SD w base m o cs u v c) {k : Nat} {x : Value} (hx : (sideC u v c)[k]? = some x) : w.cell? ⟨m, o + k, none⟩ = some x := h.cb.at_ (over_at (by have := h.hl; simpa [sideC] using this) hx)
theorem SD.set_ (h : SD w base m o cs u v c) (k : Nat) (x : Value) (hk : k < 8) : CB (w.setCell ⟨m, o + k, none⟩ x) m 87 (over cs o ((sideC u v c).set k x)) := by
  rw [← over_set (by have := h.hl; simpa [sideC] using this) (by simpa [sideC] using hk)]
  exact h.cb.set_ (o + k) x
theorem SD.um (h : SD w base m o cs u v c) : u.ownBlock ≠ some m := h.ou.ne_cells h.cb (by decide)
theorem SD.vm (h : SD w base m o cs u v c) : v.ownBlock ≠ some m := h.ov.ne_cells h.cb (by decide)
theorem SD.mod {S : Nat → Prop} (h : SD w base m o cs u v c) (k : Mod S w w') (hm : ¬ S m) (hu : ∀ g, u.ownBlock = some g → ¬ S g) (hv : ∀ g, v.ownBlock = some g → ¬ S g) : SD w' base m o cs u v c :=
  ⟨h.hb, h.hl, h.cb.mod k hm, h.ou.mod k hu, h.ov.mod k hv, h.ap⟩
theorem SD.dr (h : SD w base m o cs u v c) (k : Dr w w') : SD w' base m o cs u v c := h.mod (Mod.made (S := fun _ => False) (k.made none)) (fun h => h) (fun _ _ h => h) (fun _ _ h => h)
/-- One field that isn't a slice is written. -/
theorem SD.put (h : SD w base m o cs u v c) (k : Nat) (x : Value) (c' : Ch) (hk : k < 8) (hc : (sideC u v c).set k x = sideC u v c') (h1 : c'.waits = c.waits) (h2 : c'.came = c.came) : SD (w.setCell ⟨m, o + k, none⟩ x) base m o cs u v c' ∧ w.grownBy (w.setCell ⟨m, o + k, none⟩ x) (some m) := by
  have hg := grownC_set w m (o + k) x
  refine ⟨⟨h.hb, h.hl, by rw [← hc]; exact h.set_ k x hk, ?_, ?_, h.ap⟩, hg⟩
  · rw [h1]
    exact h.ou.mod (Mod.of_grown hg) (fun g hu e => h.um (by rw [hu, ← e]))
  · rw [h2]
    exact h.ov.mod (Mod.of_grown hg) (fun g hv e => h.vm (by rw [hv, ← e]))
end

def chClose (c : Ch) : Ch := { c with closed := true }
def chEnd (c : Ch) : Ch := { c with ended := true }
def chMore (c : Ch) (n : Nat) : Ch := { c with credit := c.credit + n }
def chTold (c : Ch) : Ch := { c with told := true }
def chGrant (c : Ch) : Ch := { c with room := c.room + c.read, read := 0 }

theorem mclose_any (w : World) (base m o : Nat) (cs : List Value) (u v : Value) (c : Ch) (h : SD w base m o cs u v c) :
    Calls Try.prog 47 #[.pointer (some ⟨m, o, none⟩)] w fun e w' => e = .returned (.int .i64 (if c.closed then 102 else 0)) ∧ SD w' base m o cs u v (chClose c) ∧ w.grownBy w' (some m) := by
  have c2 := h.at_ (k := 2) rfl
  have f2 := h.cb.free (o + 2)
  have P := Lib.hid (h.put 2 (.bool true) (chClose c) (by omega) rfl rfl rfl)
  have H := Lib.hid h
  clear h
  cases hc : c.closed with
  | true =>
    rw [hc] at c2
    have hcc : chClose c = c := by unfold chClose; cases c; simp_all
    rw [hcc]
    clear hcc hc P f2
    go_enter Try.func47, Try.ntmps47
    go_wp2
    go_ret
    exact ⟨rfl, H.out, World.grownBy.refl _ _⟩
  | false =>
    rw [hc] at c2
    clear hc
    go_enter Try.func47, Try.ntmps47
    go_wp2
    go_ret
    exact ⟨rfl, P.out⟩
theorem mend_any (w : World) (base m o : Nat) (cs : List Value) (u v : Value) (c : Ch) (h : SD w base m o cs u v c) :
    Calls Try.prog 60 #[.pointer (some ⟨m, o, none⟩)] w fun e w' => e = .returned (.int .i64 (if c.ended then 102 else 0)) ∧ SD w' base m o cs u v (chEnd c) ∧ w.grownBy w' (some m) := by
  have c2 := h.at_ (k := 7) rfl
  have f2 := h.cb.free (o + 7)
  have P := Lib.hid (h.put 7 (.bool true) (chEnd c) (by omega) rfl rfl rfl)
  have H := Lib.hid h
  clear h
  cases hc : c.ended with
  | true =>
    rw [hc] at c2
    have hcc : chEnd c = c := by unfold chEnd; cases c; simp_all
    rw [hcc]
    clear hcc hc P f2
    go_enter Try.func60, Try.ntmps60
    go_wp2
    go_ret
    exact ⟨rfl, H.out, World.grownBy.refl _ _⟩
  | false =>
    rw [hc] at c2
    clear hc
    go_enter Try.func60, Try.ntmps60
    go_wp2
    go_ret
    exact ⟨rfl, P.out⟩

set_option maxHeartbeats 1000000 in
theorem mmore_any (w : World) (base m o : Nat) (cs : List Value) (u v : Value) (c : Ch) (n : Nat) (hn : n ≤ 100000) (hc : c.credit ≤ 1024) (h : SD w base m o cs u v c) :
    Calls Try.prog 59 #[.pointer (some ⟨m, o, none⟩), .int .i64 n] w fun e w' => e = .returned (.int .i64 (if 1024 < c.credit + n then 101 else 0)) ∧ SD w' base m o cs u v (if 1024 < c.credit + n then c else chMore c n) ∧ w.grownBy w' (some m) := by
  have c1 := h.at_ (k := 1) rfl
  have f1 := h.cb.free (o + 1)
  have P := Lib.hid (h.put 1 (.int .i64 ((c.credit + n : Nat) : Int)) (chMore c n) (by omega) rfl rfl rfl)
  have H := Lib.hid h
  have hw0 : IntKind.i64.wrap (1024 - (c.credit : Int)) = 1024 - (c.credit : Int) := by simp [IntKind.wrap, IntKind.bits, IntKind.signed]; omega
  have hw1 : IntKind.i64.wrap ((c.credit : Int) + (n : Int)) = ((c.credit + n : Nat) : Int) := by simp [IntKind.wrap, IntKind.bits, IntKind.signed]; omega
  clear h
  by_cases hq : 1024 < c.credit + n
  · have hi : 1024 - (c.credit : Int) < (n : Int) := by omega
    rw [if_pos hq, if_pos hq]
    clear hq P f1 hw1 hc
    obtain ⟨x, hx⟩ : ∃ x : Int, (c.credit : Int) = x := ⟨_, rfl⟩
    rw [hx] at *
    clear hx
    go_enter Try.func59, Try.ntmps59
    go_wp2
    go_ret
    exact ⟨rfl, H.out, World.grownBy.refl _ _⟩
  · have hi : ¬ 1024 - (c.credit : Int) < (n : Int) := by omega
    rw [if_neg hq, if_neg hq]
    clear hq hc
    generalize c.credit + n = z at *
    generalize hcr : c.credit = x at *
    clear hcr
    go_enter Try.func59, Try.ntmps59
    go_wp2
    go_ret
    exact ⟨rfl, P.out⟩

def mayS (c : Ch) : Bool := decide (0 < c.waits.length ∧ 0 < c.credit)
def mustE (c : Ch) : Bool := c.closed && !c.told && decide (c.waits.length = 0)

set_option maxHeartbeats 1000000 in
theorem mmay_any (w : World) (base m o : Nat) (cs : List Value) (u v : Value) (c : Ch) (h : SD w base m o cs u v c) :
    Calls Try.prog 49 #[.pointer (some ⟨m, o, none⟩)] w fun e w' => e = .returned (.bool (mayS c)) ∧ Dr w w' := by
  obtain ⟨A, cap, rfl, hr, -⟩ := h.ou.shape
  have c0 := h.at_ (k := 0) rfl
  have c1 := h.at_ (k := 1) rfl
  have hm : mayS c = decide (0 < c.waits.length ∧ 0 < c.credit) := rfl
  rw [Nat.add_zero] at c0
  rw [hm]
  clear h hr hm
  generalize c.waits.length = n at *
  generalize c.credit = x at *
  by_cases h0 : 0 < n
  · have h0i : (0 : Int) < (n : Int) := by omega
    by_cases h1 : 0 < x
    · have h1i : (0 : Int) < (x : Int) := by omega
      rw [decide_eq_true ⟨h0, h1⟩]
      go_enter Try.func49, Try.ntmps49
      go_wp2
      go_ret
      exact ⟨rfl, Dr.refl _⟩
    · have h1i : ¬ (0 : Int) < (x : Int) := by omega
      rw [decide_eq_false (fun e => h1 e.2)]
      go_enter Try.func49, Try.ntmps49
      go_wp2
      go_ret
      exact ⟨rfl, Dr.refl _⟩
  · have h0i : ¬ (0 : Int) < (n : Int) := by omega
    rw [decide_eq_false (fun e => h0 e.1)]
    go_enter Try.func49, Try.ntmps49
    go_wp2
    go_ret
    exact ⟨rfl, Dr.refl _⟩

set_option maxHeartbeats 1000000 in
theorem mmust_any (w : World) (base m o : Nat) (cs : List Value) (u v : Value) (c : Ch) (h : SD w base m o cs u v c) :
    Calls Try.prog 51 #[.pointer (some ⟨m, o, none⟩)] w fun e w' => e = .returned (.bool (mustE c)) ∧ Dr w w' := by
  obtain ⟨A, cap, rfl, hr, -⟩ := h.ou.shape
  have c0 := h.at_ (k := 0) rfl
  have c2 := h.at_ (k := 2) rfl
  have c3 := h.at_ (k := 3) rfl
  rw [Nat.add_zero] at c0
  have hm : mustE c = (c.closed && !c.told && decide (c.waits.length = 0)) := rfl
  rw [hm]
  clear h hr hm
  generalize c.waits.length = n at *
  generalize c.closed = x at *
  generalize c.told = y at *
  cases x with
  | false =>
    go_enter Try.func51, Try.ntmps51
    go_wp2
    go_ret
    exact ⟨rfl, Dr.refl _⟩
  | true =>
    cases y with
    | true =>
      go_enter Try.func51, Try.ntmps51
      go_wp2
      go_ret
      exact ⟨rfl, Dr.refl _⟩
    | false =>
      by_cases h0 : n = 0
      · have h0i : (n : Int) = 0 := by omega
        rw [decide_eq_true h0]
        clear h0
        go_enter Try.func51, Try.ntmps51
        go_wp2
        go_ret
        exact ⟨rfl, Dr.refl _⟩
      · have h0i : ¬ (n : Int) = 0 := by omega
        rw [decide_eq_false h0]
        clear h0
        have h0b : ((n : Int) == 0) = false := beq_eq_false_iff_ne.2 h0i
        go_enter Try.func51, Try.ntmps51
        go_wp2
        go_ret
        exact ⟨rfl, Dr.refl _⟩
end Go.Proofs.Ytajfaplaaafjiaa
