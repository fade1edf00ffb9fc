/- The walks of a side's write, take, give, grant. -/
import Derived.Test.YtajfaplaaafjiaaMxc
namespace Go.Proofs.Ytajfaplaaafjiaa
open Go.RowKit

/-- A row that was the old one's block, or is new. -/
def NewB (w : World) (u u' : Value) : Prop := u'.ownBlock = u.ownBlock ∨ u'.ownBlock = some w.heap.size
def sdU (m : Nat) (u : Value) (z : Nat) : Prop := z = m ∨ u.ownBlock = some z

section
variable {w w1 : World} {base m o : Nat} {cs : List Value} {u v u' v' : Value} {c c' : Ch} {l : List UInt8}
/-- The slice that waits is another one. -/
theorem SD.setU (h : SD w base m o cs u v c) (ou : OwnB w1 base 5 u' l) (hM : w.grownBy w1 u.ownBlock) (hn : NewB w u u') (hc : (sideC u v c).set 0 u' = sideC u' v c') (h1 : c'.waits = l) (h2 : c'.came = c.came) :
    SD (w1.setCell ⟨m, o, none⟩ u') base m o cs u' v c' ∧ Mod (sdU m u) w (w1.setCell ⟨m, o, none⟩ u') := by
  have hg := grownC_set w1 m o u'
  have hm := h.cb.lt
  have hum : u'.ownBlock ≠ some m := by
    rcases hn with e | e
    · rw [e]; exact h.um
    · rw [e]; intro e; injection e with e; omega
  have hvu : ∀ g, v.ownBlock = some g → u.ownBlock ≠ some g := fun g hg e => h.ap g e hg
  have cb1 : CB w1 m 87 (over cs o (sideC u v c)) := h.cb.mod (Mod.of_grown hM) (fun e => h.um e.symm)
  refine ⟨⟨h.hb, h.hl, ?_, ?_, ?_, ?_⟩, ?_⟩
  · rw [← hc, ← over_set (by have := h.hl; simpa [sideC] using this) (by simp [sideC])]
    exact cb1.set_ o u'
  · rw [h1]
    exact ou.mod (Mod.of_grown hg) (fun g hu e => hum (by rw [hu, ← e]))
  · rw [h2]
    exact (h.ov.mod (Mod.of_grown hM) (fun g hv e => hvu g hv e.symm)).mod (Mod.of_grown hg) (fun g hv e => h.vm (by rw [hv, ← e]))
  · intro g hu hv
    rcases hn with e | e
    · exact h.ap g (by rw [← e]; exact hu) hv
    · rw [e] at hu
      injection hu with hu
      have := (h.ov.lt g hv).2
      omega
  · exact ((Mod.of_grown hM).mono (fun k hk e => .inr e.symm)).grown hg (fun z hz _ => .inl (by injection hz with hz; exact hz.symm))
/-- The slice that came is another one. -/
theorem SD.setV (h : SD w base m o cs u v c) (ov : OwnB w1 base 5 v' l) (hM : w.grownBy w1 v.ownBlock) (hn : NewB w v v') (hc : (sideC u v c).set 4 v' = sideC u v' c') (h1 : c'.waits = c.waits) (h2 : c'.came = l) :
    SD (w1.setCell ⟨m, o + 4, none⟩ v') base m o cs u v' c' ∧ Mod (sdU m v) w (w1.setCell ⟨m, o + 4, none⟩ v') := by
  have hg := grownC_set w1 m (o + 4) v'
  have hm := h.cb.lt
  have hum : v'.ownBlock ≠ some m := by
    rcases hn with e | e
    · rw [e]; exact h.vm
    · rw [e]; intro e; injection e with e; omega
  have cb1 : CB w1 m 87 (over cs o (sideC u v c)) := h.cb.mod (Mod.of_grown hM) (fun e => h.vm e.symm)
  refine ⟨⟨h.hb, h.hl, ?_, ?_, ?_, ?_⟩, ?_⟩
  · rw [← hc, ← over_set (by have := h.hl; simpa [sideC] using this) (by simp [sideC])]
    exact cb1.set_ (o + 4) v'
  · rw [h1]
    exact (h.ou.mod (Mod.of_grown hM) (fun g hu e => h.ap g hu e.symm)).mod (Mod.of_grown hg) (fun g hu e => h.um (by rw [hu, ← e]))
  · rw [h2]
    exact ov.mod (Mod.of_grown hg) (fun g hu e => hum (by rw [hu, ← e]))
  · intro g hu hv
    rcases hn with e | e
    · exact h.ap g hu (by rw [← e]; exact hv)
    · rw [e] at hv
      injection hv with hv
      have := (h.ou.lt g hu).2
      omega
  · exact ((Mod.of_grown hM).mono (fun k hk e => .inr e.symm)).grown hg (fun z hz _ => .inl (by injection hz with hz; exact hz.symm))
end

def chWrite (c : Ch) (l : List UInt8) : Ch := { c with waits := c.waits ++ l }
def chTake (c : Ch) (l : List UInt8) : Ch := { c with came := c.came ++ l, room := c.room - l.length }
def writeE (c : Ch) (n : Nat) : Int := if c.closed then 102 else if 4096 < c.waits.length + n then 2 else 0
def takeE (c : Ch) (n : Nat) : Int := if c.ended then 102 else if c.room < n then 101 else 0

set_option maxHeartbeats 2000000 in
theorem mwrite_any (w : World) (base m o : Nat) (cs : List Value) (u v : Value) (c : Ch) (h : SD w base m o cs u v c) (hw : c.waits.length ≤ 4096) (A : Option Addr) (l : List UInt8) (n cap : Nat) (hn : l.length = n) (hr : RB w w.heap.size A l cap) (hnl : n ≤ 1000000) :
    Calls Try.prog 46 #[.pointer (some ⟨m, o, none⟩), .slice A n cap] w fun e w' => e = .returned (.int .i64 (writeE c n)) ∧
      ∃ u', SD w' base m o cs u' v (if writeE c n = 0 then chWrite c l else c) ∧ NewB w u u' ∧ Mod (sdU m u) w w' := by
  obtain ⟨UA, ucap, hu, -, -⟩ := h.ou.shape
  have c2 := h.at_ (k := 2) rfl
  have c0 := h.at_ (k := 0) rfl
  have f0 := h.cb.free o
  rw [Nat.add_zero] at c0
  have H := Lib.hid h
  have HR := Lib.hid hr
  have HN := Lib.hid hn
  have HB := Lib.hid (show base ≤ w.heap.size from Nat.le_trans h.hb (Nat.le_of_lt h.cb.lt))
  have HW := Lib.hid (show c.waits.length + n ≤ 140737488355328 by omega)
  clear h hr hn
  subst hu
  have hw0 : IntKind.i64.wrap (4096 - (c.waits.length : Int)) = 4096 - (c.waits.length : Int) := by simp [IntKind.wrap, IntKind.bits, IntKind.signed]; omega
  by_cases hc : c.closed = true
  · have he : writeE c n = 102 := by unfold writeE; rw [if_pos hc]
    rw [hc] at c2
    rw [he]
    clear hc he
    go_enter Try.func46, Try.ntmps46
    go_wp2
    go_ret
    exact ⟨rfl, _, H.out, .inl rfl, Mod.refl _ _⟩
  have hcf : c.closed = false := by simpa using hc
  rw [hcf] at c2
  by_cases hq : 4096 < c.waits.length + n
  · have he : writeE c n = 2 := by unfold writeE; rw [if_neg hc, if_pos hq]
    have hi : 4096 - (c.waits.length : Int) < (n : Int) := by omega
    rw [he]
    clear hc he hcf hq
    generalize hz : c.waits.length = z at *
    go_enter Try.func46, Try.ntmps46
    go_wp2
    go_ret
    exact ⟨rfl, _, H.out, .inl rfl, Mod.refl _ _⟩
  · have he : writeE c n = 0 := by unfold writeE; rw [if_neg hc, if_neg hq]
    have hi : ¬ 4096 - (c.waits.length : Int) < (n : Int) := by omega
    rw [he]
    clear hc he hcf hq
    obtain ⟨z, hz⟩ : ∃ z, c.waits.length = z := ⟨_, rfl⟩
    have HZ := Lib.hid hz
    rw [hz] at c0 hw0 hi H hw HW ⊢
    clear hz
    go_enter Try.func46, Try.ntmps46
    go_wp2_with (at_builtin
                 refine wpList_appB byteT rfl (.tmp 24) (.tmp 25) rfl H.out.ou HR.out (by first | rfl | go_simp) (by rw [HN.out]; first | rfl | go_simp) (by rw [HZ.out, HN.out]; exact HW.out) HB.out ?_
                 intro u1 w1 o1 g1 _ at1
                 obtain ⟨UA1, uc1, rfl, -, -⟩ := o1.shape
                 generalize (c.waits ++ l).length = z1 at *
                 have O1 := Lib.hid o1
                 have G1 := Lib.hid g1
                 have A1 := Lib.hid at1
                 have CB1 := Lib.hid (show CB w1 m 87 _ from H.out.cb.mod (Mod.of_grown g1) (fun e => H.out.um e.symm))
                 have d0 : w1.cell? ⟨m, o, none⟩ = some (.slice UA z ucap) := CB1.out.at_ (over_at (o := o) (k := 0) (by have := H.out.hl; simpa [sideC] using this) rfl)
                 have d1 : w1.frozen? ⟨m, o, none⟩ = false := CB1.out.free o
                 clear o1 g1 at1)
    go_ret
    obtain ⟨q1, q2⟩ := H.out.setU (c' := chWrite c l) O1.out G1.out A1.out rfl rfl rfl
    exact ⟨rfl, _, q1, A1.out, q2⟩

set_option maxHeartbeats 2000000 in
theorem mtake_any (w : World) (base m o : Nat) (cs : List Value) (u v : Value) (c : Ch) (h : SD w base m o cs u v c) (hw : c.came.length ≤ 4096) (hroom : c.room ≤ 1024) (A : Option Addr) (l : List UInt8) (n cap : Nat) (hn : l.length = n) (hr : RB w w.heap.size A l cap) (hnl : n ≤ 1000000) :
    Calls Try.prog 55 #[.pointer (some ⟨m, o, none⟩), .slice A n cap] w fun e w' => e = .returned (.int .i64 (takeE c n)) ∧
      ∃ v', SD w' base m o cs u v' (if takeE c n = 0 then chTake c l else c) ∧ NewB w v v' ∧ Mod (sdU m v) w w' := by
  obtain ⟨VA, vcap, hv, -, -⟩ := h.ov.shape
  have c7 := h.at_ (k := 7) rfl
  have c5 := h.at_ (k := 5) rfl
  have c4 := h.at_ (k := 4) rfl
  have f4 := h.cb.free (o + 4)
  have H := Lib.hid h
  have HR := Lib.hid hr
  have HN := Lib.hid hn
  have HB := Lib.hid (show base ≤ w.heap.size from Nat.le_trans h.hb (Nat.le_of_lt h.cb.lt))
  have HW := Lib.hid (show c.came.length + n ≤ 140737488355328 by omega)
  clear h hr hn
  subst hv
  by_cases hc : c.ended = true
  · have he : takeE c n = 102 := by unfold takeE; rw [if_pos hc]
    rw [hc] at c7
    rw [he]
    clear hc he
    go_enter Try.func55, Try.ntmps55
    go_wp2
    go_ret
    exact ⟨rfl, _, H.out, .inl rfl, Mod.refl _ _⟩
  have hcf : c.ended = false := by simpa using hc
  rw [hcf] at c7
  by_cases hq : c.room < n
  · have he : takeE c n = 101 := by unfold takeE; rw [if_neg hc, if_pos hq]
    have hi : (c.room : Int) < (n : Int) := by omega
    rw [he]
    clear hc he hcf hq
    generalize hz : c.room = z at *
    go_enter Try.func55, Try.ntmps55
    go_wp2
    go_ret
    exact ⟨rfl, _, H.out, .inl rfl, Mod.refl _ _⟩
  · have he : takeE c n = 0 := by unfold takeE; rw [if_neg hc, if_neg hq]
    have hi : ¬ (c.room : Int) < (n : Int) := by omega
    have hw1 : IntKind.i64.wrap ((c.room : Int) - (n : Int)) = ((c.room - l.length : Nat) : Int) := by rw [HN.out]; simp [IntKind.wrap, IntKind.bits, IntKind.signed]; omega
    have PU := Lib.hid (fun (w1 : World) (v1 : Value) (q : SD w1 base m o cs u v1 { c with came := c.came ++ l }) => q.put 5 (.int .i64 ((c.room - l.length : Nat) : Int)) (chTake c l) (by omega) rfl rfl rfl)
    rw [he]
    clear hc he hcf hq
    obtain ⟨z, hz⟩ : ∃ z, c.came.length = z := ⟨_, rfl⟩
    have HZ := Lib.hid hz
    rw [hz] at c4 hw H HW ⊢
    clear hz
    generalize hrl : c.room - l.length = rl at *
    obtain ⟨rm, hrm⟩ : ∃ rm, c.room = rm := ⟨_, rfl⟩
    rw [hrm] at c5 hw1 hi hroom
    have HRM := Lib.hid hrm
    clear hrl hrm
    go_enter Try.func55, Try.ntmps55
    go_wp2_with (at_builtin
                 refine wpList_appB byteT rfl (.tmp 22) (.tmp 23) rfl H.out.ov HR.out (by first | rfl | go_simp) (by rw [HN.out]; first | rfl | go_simp) (by rw [HZ.out, HN.out]; exact HW.out) HB.out ?_
                 intro v1 w1 o1 g1 _ at1
                 obtain ⟨VA1, vc1, rfl, -, -⟩ := o1.shape
                 generalize (c.came ++ l).length = z1 at *
                 have O1 := Lib.hid o1
                 have G1 := Lib.hid g1
                 have A1 := Lib.hid at1
                 have CB1 := Lib.hid (show CB w1 m 87 _ from H.out.cb.mod (Mod.of_grown g1) (fun e => H.out.vm e.symm))
                 have d0 : w1.cell? ⟨m, o + 4, none⟩ = some (.slice VA z vcap) := CB1.out.at_ (over_at (o := o) (k := 4) (by have := H.out.hl; simpa [sideC] using this) rfl)
                 have d1 : w1.frozen? ⟨m, o + 4, none⟩ = false := CB1.out.free (o + 4)
                 have d2 : w1.cell? ⟨m, o + 5, none⟩ = some (.int .i64 (rm : Int)) := by rw [← HRM.out]; exact CB1.out.at_ (over_at (o := o) (k := 5) (by have := H.out.hl; simpa [sideC] using this) rfl)
                 have d3 : w1.frozen? ⟨m, o + 5, none⟩ = false := CB1.out.free (o + 5)
                 clear o1 g1 at1)
    go_ret
    obtain ⟨q1, q2⟩ := H.out.setV (c' := { c with came := c.came ++ l }) O1.out G1.out A1.out rfl rfl rfl
    obtain ⟨q3, q4⟩ := PU.out _ _ q1
    exact ⟨rfl, _, q3, A1.out, q2.grown q4 (fun x hx _ => .inl (by injection hx with hx; exact hx.symm))⟩
end Go.Proofs.Ytajfaplaaafjiaa
