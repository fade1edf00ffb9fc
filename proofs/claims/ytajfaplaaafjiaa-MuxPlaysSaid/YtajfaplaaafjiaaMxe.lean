/- The walks of a side's give, send, grant. -/
import Derived.Test.YtajfaplaaafjiaaMxd
namespace Go.Proofs.Ytajfaplaaafjiaa
open Go.RowKit

def chSend (c : Ch) (k : Nat) : Ch := { c with waits := c.waits.drop k, credit := c.credit - k }
def chGive (c : Ch) (k : Nat) : Ch := { c with came := c.came.drop k, read := c.read + k }

/-- Behind cut: the side with another slice, then a number. -/
theorem SD.cutU {w w1 : World} {base m o : Nat} {cs : List Value} {UA : Option Addr} {v : Value} {c : Ch} {n k ucap : Nat} (h : SD w base m o cs (.slice UA n ucap) v c)
    (hb : CB w1 m 87 ((over cs o (sideC (.slice UA n ucap) v c)).set o (.slice UA k ucap))) (ho : OwnB w1 base 5 (.slice UA k ucap) (c.waits.drop (n - k)))
    (hM : Mod (fun z => z = m ∨ (Value.slice UA n ucap).ownBlock = some z) w w1) : SD w1 base m o cs (.slice UA k ucap) v { c with waits := c.waits.drop (n - k) } := by
  refine ⟨h.hb, h.hl, ?_, ho, h.ov.mod hM (fun g hg e => ?_), fun g hu hv => ?_⟩
  · have := over_set (cs := cs) (p := sideC (.slice UA n ucap) v c) (o := o) (k := 0) (x := .slice UA k ucap) (by have := h.hl; simpa [sideC] using this) (by simp [sideC])
    rw [Nat.add_zero] at this
    rw [this] at hb
    exact hb
  · rcases e with rfl | e
    · exact h.vm hg
    · exact h.ap g e hg
  · rw [ownBlock_len UA k n ucap] at hu
    exact h.ap g hu hv
theorem SD.cutV {w w1 : World} {base m o : Nat} {cs : List Value} {VA : Option Addr} {u : Value} {c : Ch} {n k vcap : Nat} (h : SD w base m o cs u (.slice VA n vcap) c)
    (hb : CB w1 m 87 ((over cs o (sideC u (.slice VA n vcap) c)).set (o + 4) (.slice VA k vcap))) (ho : OwnB w1 base 5 (.slice VA k vcap) (c.came.drop (n - k)))
    (hM : Mod (fun z => z = m ∨ (Value.slice VA n vcap).ownBlock = some z) w w1) : SD w1 base m o cs u (.slice VA k vcap) { c with came := c.came.drop (n - k) } := by
  refine ⟨h.hb, h.hl, ?_, h.ou.mod hM (fun g hg e => ?_), ho, fun g hu hv => ?_⟩
  · have := over_set (cs := cs) (p := sideC u (.slice VA n vcap) c) (o := o) (k := 4) (x := .slice VA k vcap) (by have := h.hl; simpa [sideC] using this) (by simp [sideC])
    rw [this] at hb
    exact hb
  · rcases e with rfl | e
    · exact h.um hg
    · exact h.ap g hg e
  · rw [ownBlock_len VA k n vcap] at hv
    exact h.ap g hu hv

set_option maxHeartbeats 2000000 in
theorem mgive_any (w : World) (base m o : Nat) (cs : List Value) (u v : Value) (c : Ch) (h : SD w base m o cs u v c) (hw : c.came.length ≤ 4096) (hread : c.read ≤ 1000000) (most : Nat) (hmost : most ≤ 9223372036854775807) (k : Nat) (hk : min most c.came.length = k) :
    Calls Try.prog 48 #[.pointer (some ⟨m, o, none⟩), .int .i64 most] w fun e w' => ∃ A' c', e = .returned (.slice A' k c') ∧ OwnB w' w.heap.size 5 (.slice A' k c') (c.came.take k) ∧
      ∃ v', SD w' base m o cs u v' (chGive c k) ∧ v'.ownBlock = v.ownBlock ∧ Mod (sdU m v) w w' := by
  obtain ⟨VA, vcap, hv, -, -⟩ := h.ov.shape
  subst hv
  obtain ⟨n, hn⟩ : ∃ n, c.came.length = n := ⟨_, rfl⟩
  rw [hn] at h hk hw ⊢
  have hkn : k ≤ n := by omega
  have CT := Lib.hid (cut_any w base m (o + 4) 87 (by decide) _ VA n vcap c.came most k h.cb (over_at (o := o) (k := 4) (by have := h.hl; simpa [sideC] using this) rfl) h.ov hn (by omega) hk hmost)
  have HL := Lib.hid h.hl
  have H := Lib.hid h
  have hw1 : IntKind.i64.wrap ((c.read : Int) + (k : Int)) = ((c.read + k : Nat) : Int) := by simp [IntKind.wrap, IntKind.bits, IntKind.signed]; omega
  have FIN := Lib.hid (fun (w1 : World) (A1 : Option Addr) (c1 : Nat) (o1 : OwnB w1 w.heap.size 5 (.slice A1 k c1) (c.came.take k)) (b1 : CB w1 m 87 ((over cs o (sideC u (.slice VA n vcap) c)).set (o + 4) (.slice VA (n - k) vcap)))
      (o2 : OwnB w1 base 5 (.slice VA (n - k) vcap) (c.came.drop k)) (m1 : Mod (fun z => z = m ∨ (Value.slice VA n vcap).ownBlock = some z) w w1) => by
    have q1 := h.cutV (k := n - k) b1 (by rw [show n - (n - k) = k by omega]; exact o2) m1
    rw [show n - (n - k) = k by omega] at q1
    obtain ⟨q2, q3⟩ := q1.put 6 (.int .i64 ((c.read + k : Nat) : Int)) (chGive c k) (by omega) rfl rfl rfl
    have hm := h.cb.lt
    exact (show ∃ A' c', Ending.returned (.slice A1 k c1) = .returned (.slice A' k c') ∧ OwnB (w1.setCell ⟨m, o + 6, none⟩ (.int .i64 ((c.read + k : Nat) : Int))) w.heap.size 5 (.slice A' k c') (c.came.take k) ∧
      ∃ v', SD (w1.setCell ⟨m, o + 6, none⟩ (.int .i64 ((c.read + k : Nat) : Int))) base m o cs u v' (chGive c k) ∧ v'.ownBlock = (Value.slice VA n vcap).ownBlock ∧ Mod (sdU m (.slice VA n vcap)) w (w1.setCell ⟨m, o + 6, none⟩ (.int .i64 ((c.read + k : Nat) : Int))) from
      ⟨A1, c1, rfl, o1.mod (Mod.of_grown q3) (fun g hg e => by have := (o1.lt g hg).1; injection e with e; omega), _, q2, ownBlock_len _ _ _ _, m1.grown q3 (fun z hz _ => .inl (by injection hz with hz; exact hz.symm))⟩))
  have OV := Lib.hid (show ((over cs o (sideC u (.slice VA n vcap) c)).set (o + 4) (.slice VA (n - k) vcap))[o + 6]? = some (.int .i64 (c.read : Int)) by
    rw [List.getElem?_set_ne (by omega)]; exact over_at (o := o) (k := 6) (by have := h.hl; simpa [sideC] using this) rfl)
  clear h
  generalize hrk : c.read + k = rk at *
  obtain ⟨rd, hrd⟩ : ∃ rd, c.read = rd := ⟨_, rfl⟩
  rw [hrd] at OV hw1 hrk hread
  obtain ⟨nk, hnk⟩ : ∃ nk, n - k = nk := ⟨_, rfl⟩
  rw [hnk] at CT FIN OV
  clear hrk hnk
  go_enter Try.func48, Try.ntmps48
  go_wp2_with (go_at_call 58
               refine (CT.out).mono ?_
               rintro e w1 ⟨A1, c1, rfl, o1, b1, o2, m1⟩
               have O1 := Lib.hid o1
               have B1 := Lib.hid b1
               have O2 := Lib.hid o2
               have M1 := Lib.hid m1
               have d1 : w1.cell? ⟨m, o + 6, none⟩ = some (.int .i64 (rd : Int)) := b1.at_ OV.out
               have f1 : w1.frozen? ⟨m, o + 6, none⟩ = false := b1.free (o + 6)
               clear o1 b1 o2 m1)
  go_ret
  exact FIN.out _ _ _ O1.out B1.out O2.out M1.out

set_option maxRecDepth 100000 in
set_option maxHeartbeats 2000000 in
theorem msend_any (w : World) (base m o : Nat) (cs : List Value) (u v : Value) (c : Ch) (h : SD w base m o cs u v c) (hw : c.waits.length ≤ 4096) (hcr : c.credit ≤ 1024) (k : Nat) (hk : min (min c.credit 512) c.waits.length = k) :
    Calls Try.prog 50 #[.pointer (some ⟨m, o, none⟩)] w fun e w' => ∃ A' c', e = .returned (.slice A' k c') ∧ OwnB w' w.heap.size 5 (.slice A' k c') (c.waits.take k) ∧
      ∃ u', SD w' base m o cs u' v (chSend c k) ∧ u'.ownBlock = u.ownBlock ∧ Mod (sdU m u) w w' := by
  obtain ⟨UA, ucap, hu, -, -⟩ := h.ou.shape
  subst hu
  obtain ⟨n, hn⟩ : ∃ n, c.waits.length = n := ⟨_, rfl⟩
  rw [hn] at h hk hw ⊢
  have hkn : k ≤ n := by omega
  have hkc : k ≤ c.credit := by omega
  have c1 := h.at_ (k := 1) rfl
  have CT := Lib.hid (cut_any w.drew base m o 87 (by decide) _ UA n ucap c.waits (min c.credit 512) k h.cb (over_at (o := o) (k := 0) (by have := h.hl; simpa [sideC] using this) rfl) h.ou hn (by omega) hk (by omega))
  have H := Lib.hid h
  have hw1 : IntKind.i64.wrap ((c.credit : Int) - (k : Int)) = ((c.credit - k : Nat) : Int) := by simp [IntKind.wrap, IntKind.bits, IntKind.signed]; omega
  have FIN := Lib.hid (fun (w1 : World) (A1 : Option Addr) (c1 : Nat) (o1 : OwnB w1 w.heap.size 5 (.slice A1 k c1) (c.waits.take k)) (b1 : CB w1 m 87 ((over cs o (sideC (.slice UA n ucap) v c)).set o (.slice UA (n - k) ucap)))
      (o2 : OwnB w1 base 5 (.slice UA (n - k) ucap) (c.waits.drop k)) (m1 : Mod (fun z => z = m ∨ (Value.slice UA n ucap).ownBlock = some z) w.drew w1) => by
    have m2 : Mod (fun z => z = m ∨ (Value.slice UA n ucap).ownBlock = some z) w w1 := ⟨m1.os, m1.tape, m1.output, m1.size, m1.block⟩
    have q1 := h.cutU (k := n - k) b1 (by rw [show n - (n - k) = k by omega]; exact o2) m2
    rw [show n - (n - k) = k by omega] at q1
    obtain ⟨q2, q3⟩ := q1.put 1 (.int .i64 ((c.credit - k : Nat) : Int)) (chSend c k) (by omega) rfl rfl rfl
    have hm := h.cb.lt
    exact (show ∃ A' c', Ending.returned (.slice A1 k c1) = .returned (.slice A' k c') ∧ OwnB (w1.setCell ⟨m, o + 1, none⟩ (.int .i64 ((c.credit - k : Nat) : Int))) w.heap.size 5 (.slice A' k c') (c.waits.take k) ∧
      ∃ u', SD (w1.setCell ⟨m, o + 1, none⟩ (.int .i64 ((c.credit - k : Nat) : Int))) base m o cs u' v (chSend c k) ∧ u'.ownBlock = (Value.slice UA n ucap).ownBlock ∧ Mod (sdU m (.slice UA n ucap)) w (w1.setCell ⟨m, o + 1, none⟩ (.int .i64 ((c.credit - k : Nat) : Int))) from
      ⟨A1, c1, rfl, o1.mod (Mod.of_grown q3) (fun g hg e => by have := (o1.lt g hg).1; injection e with e; omega), _, q2, ownBlock_len _ _ _ _, m2.grown q3 (fun z hz _ => .inl (by injection hz with hz; exact hz.symm))⟩))
  have OV := Lib.hid (show ((over cs o (sideC (.slice UA n ucap) v c)).set o (.slice UA (n - k) ucap))[o + 1]? = some (.int .i64 (c.credit : Int)) by
    rw [List.getElem?_set_ne (by omega)]; exact over_at (o := o) (k := 1) (by have := h.hl; simpa [sideC] using this) rfl)
  clear h
  generalize hck : c.credit - k = ck at *
  obtain ⟨cr, hcr0⟩ : ∃ cr, c.credit = cr := ⟨_, rfl⟩
  have HCR := Lib.hid hcr0
  rw [hcr0] at c1 OV hw1 hck hcr hkc hk CT
  obtain ⟨nk, hnk⟩ : ∃ nk, n - k = nk := ⟨_, rfl⟩
  rw [hnk] at CT FIN OV
  clear hck hnk hcr0
  rcases Nat.lt_trichotomy cr 512 with hlt | heq | hgt
  · have hmin : (cr : Int) < 512 := by omega
    rw [Nat.min_eq_left (by omega)] at CT
    clear hk
    go_enter Try.func50, Try.ntmps50
    go_wp2
    go_still_tail 8, (by kernel_rfl)
    change wpList _ _ _ _ _ w.drew
    go_wp2_with (go_at_call 58
                 refine (CT.out).mono ?_
                 rintro e w1 ⟨A1, c1, rfl, o1, b1, o2, m1⟩
                 have O1 := Lib.hid o1
                 have B1 := Lib.hid b1
                 have O2 := Lib.hid o2
                 have M1 := Lib.hid m1
                 have d1 : w1.cell? ⟨m, o + 1, none⟩ = some (.int .i64 (cr : Int)) := b1.at_ OV.out
                 have f1 : w1.frozen? ⟨m, o + 1, none⟩ = false := b1.free (o + 1)
                 clear o1 b1 o2 m1)
    go_ret
    exact FIN.out _ _ _ O1.out B1.out O2.out M1.out
  · rw [heq] at CT c1 hw1 OV HCR
    have hx : min 512 512 = 512 := rfl
    rw [hx] at CT
    subst heq
    have c1 : w.cell? ⟨m, o + 1, none⟩ = some (.int .i64 512) := c1
    have hw1 : IntKind.i64.wrap (512 - (k : Int)) = (ck : Int) := hw1
    have CT : Hid (Calls Try.prog 58 #[.pointer (some ⟨m, o, none⟩), .int .i64 512] w.drew _) := CT
    clear hk
    go_enter Try.func50, Try.ntmps50
    go_wp2
    go_still_tail 8, (by kernel_rfl)
    change wpList _ _ _ _ _ w.drew
    go_wp2_with (go_at_call 58
                 refine (CT.out).mono ?_
                 rintro e w1 ⟨A1, c1, rfl, o1, b1, o2, m1⟩
                 have O1 := Lib.hid o1
                 have B1 := Lib.hid b1
                 have O2 := Lib.hid o2
                 have M1 := Lib.hid m1
                 have d1 : w1.cell? ⟨m, o + 1, none⟩ = some (.int .i64 512) := b1.at_ OV.out
                 have f1 : w1.frozen? ⟨m, o + 1, none⟩ = false := b1.free (o + 1)
                 clear o1 b1 o2 m1)
    go_ret
    exact FIN.out _ _ _ O1.out B1.out O2.out M1.out
  · have hmin : (512 : Int) < (cr : Int) := by omega
    rw [Nat.min_eq_right (by omega)] at CT
    clear hk
    go_enter Try.func50, Try.ntmps50
    go_wp2
    go_still_tail 8, (by kernel_rfl)
    change wpList _ _ _ _ _ w.drew
    go_wp2_with (go_at_call 58
                 refine (CT.out).mono ?_
                 rintro e w1 ⟨A1, c1, rfl, o1, b1, o2, m1⟩
                 have O1 := Lib.hid o1
                 have B1 := Lib.hid b1
                 have O2 := Lib.hid o2
                 have M1 := Lib.hid m1
                 have d1 : w1.cell? ⟨m, o + 1, none⟩ = some (.int .i64 (cr : Int)) := b1.at_ OV.out
                 have f1 : w1.frozen? ⟨m, o + 1, none⟩ = false := b1.free (o + 1)
                 clear o1 b1 o2 m1)
    go_ret
    exact FIN.out _ _ _ O1.out B1.out O2.out M1.out
end Go.Proofs.Ytajfaplaaafjiaa
