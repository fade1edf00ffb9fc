/- The walk of cut. -/
import Derived.Test.YtajfaplaaafjiaaMxb
namespace Go.Proofs.Ytajfaplaaafjiaa
open Go.RowKit

theorem ownBlock_len (A : Option Addr) (n m c : Nat) : (Value.slice A n c).ownBlock = (Value.slice A m c).ownBlock := by cases A <;> rfl

/-- What is left behind cut's last store. -/
theorem fin_cut {w w1 w2 : World} {base r q n m cap k : Nat} {T : TypeId} {cs : List Value} {A A' : Option Addr} {c' : Nat} {l : List UInt8} (hc : CB w r T cs)
    (hne : ∀ g, (Value.slice A n cap).ownBlock = some g → g ≠ r ∧ g < w.heap.size) (o1 : OwnB w1 w.heap.size 5 (.slice A' k c') (l.take k)) (b1 : Below w.heap.size w w1)
    (o2 : OwnB w2 base 5 (.slice A m cap) (l.drop k)) (g2 : w1.grownBy w2 (Value.slice A n cap).ownBlock) (cb : CB w2 r T cs) :
    ∃ A'' c'', Ending.returned (.slice A' k c') = .returned (.slice A'' k c'') ∧ OwnB (w2.setCell ⟨r, q, none⟩ (.slice A m cap)) w.heap.size 5 (.slice A'' k c'') (l.take k) ∧
      CB (w2.setCell ⟨r, q, none⟩ (.slice A m cap)) r T (cs.set q (.slice A m cap)) ∧ OwnB (w2.setCell ⟨r, q, none⟩ (.slice A m cap)) base 5 (.slice A m cap) (l.drop k) ∧
      Mod (fun z => z = r ∨ (Value.slice A n cap).ownBlock = some z) w (w2.setCell ⟨r, q, none⟩ (.slice A m cap)) := by
  have hr := hc.lt
  have g3 := grownC_set w2 r q (.slice A m cap)
  refine ⟨A', c', rfl, ?_, cb.set_ q _, ?_, ?_⟩
  · refine (o1.mod (Mod.of_grown g2) (fun g hg e => ?_)).mod (Mod.of_grown g3) (fun g hg e => ?_)
    · have := (hne g e.symm).2
      have := (o1.lt g hg).1
      omega
    · injection e with e
      have := (o1.lt g hg).1
      omega
  · refine o2.mod (Mod.of_grown g3) (fun g hg e => ?_)
    injection e with e
    rw [ownBlock_len A m n cap] at hg
    exact (hne g hg).1 e
  · refine ((Mod.made (none_of_below b1 (Nat.le_refl _))).grown g2 (fun z hz _ => .inr hz)).grown g3 (fun z hz _ => .inl ?_)
    injection hz with hz
    exact hz.symm

set_option maxRecDepth 10000 in
set_option maxHeartbeats 4000000 in
theorem cut_any (w : World) (base r q : Nat) (T : TypeId) (hT : 5 ≠ T) (cs : List Value) (A : Option Addr) (n cap : Nat) (l : List UInt8) (most k : Nat) (hcb : CB w r T cs) (hq : cs[q]? = some (.slice A n cap))
    (ho : OwnB w base 5 (.slice A n cap) l) (hn : l.length = n) (hnl : n ≤ 100000000) (hk : min most n = k) (hmost : most ≤ 9223372036854775807) :
    Calls Try.prog 58 #[.pointer (some ⟨r, q, none⟩), .int .i64 most] w fun e w' => ∃ A' c', e = .returned (.slice A' k c') ∧ OwnB w' w.heap.size 5 (.slice A' k c') (l.take k) ∧
      CB w' r T (cs.set q (.slice A (n - k) cap)) ∧ OwnB w' base 5 (.slice A (n - k) cap) (l.drop k) ∧ Mod (fun z => z = r ∨ (Value.slice A n cap).ownBlock = some z) w w' := by
  have c0 := hcb.at_ hq
  have C0 := Lib.hid c0
  have HQR := Lib.hid hcb.lt
  have hrb : RB w w.heap.size A l cap := by
    obtain ⟨A', cap', e, hr, -⟩ := ho.shape
    injection e with e1 e2 e3
    subst e1 e3
    exact hr
  have hcap : n ≤ cap ∧ cap ≤ 9223372036854775807 := by rw [← hn]; exact ⟨hrb.1, hrb.2.1⟩
  obtain ⟨hc1, hc2⟩ := hcap
  have hkn : k ≤ n := by omega
  have hkc : k ≤ cap := by omega
  have CL := Lib.hid (clone_any A (l.take k) cap k w (by rw [List.length_take]; omega) (hrb.head k) (by omega))
  obtain ⟨m, hm⟩ : ∃ m, n - k = m := ⟨_, rfl⟩
  rw [hm]
  have DL := Lib.hid (fun w1 (h1 : OwnB w1 base 5 (.slice A n cap) l) => by have := delete_any w1 base A n cap l k h1 hn hkn (by omega); rw [hm] at this; exact this)
  have HO := Lib.hid ho
  have HC := Lib.hid hcb
  have HQ := Lib.hid hq
  have HNE := Lib.hid (show ∀ g, (Value.slice A n cap).ownBlock = some g → g ≠ r ∧ g < w.heap.size from fun g hg => ⟨fun e => ho.ne_cells hcb hT (by rw [hg, e]), (ho.lt g hg).2⟩)
  by_cases hlt : most < n
  · have hmin : (most : Int) < (n : Int) := by omega
    have hkm : k = most := by omega
    subst hkm
    cases A with
    | none =>
      exfalso
      rcases hrb.2.2 with ⟨_, h0⟩ | ⟨a, ha, _⟩
      · omega
      · cases ha
    | some a =>
      clear hrb hnl hk ho hcb hq hn hlt hm
      go_enter Try.func58, Try.ntmps58
      go_wp2_with (first
        | (go_at_call 57
           refine CL.out.mono ?_
           rintro e w1 ⟨A', c', rfl, o1, b1⟩
           have O1 := Lib.hid o1
           have B1 := Lib.hid b1
           have c1 : w1.cell? ⟨r, q, none⟩ = some (.slice (some a) n cap) := (b1.cell HQR.out).trans C0.out
           clear o1 b1)
        | (go_at_call 61
           refine (DL.out w1 (HO.out.below B1.out)).mono ?_
           rintro e w2 ⟨rfl, o2, g2⟩
           have O2 := Lib.hid o2
           have G2 := Lib.hid g2
           have CB2 := Lib.hid (show CB w2 r T cs from (HC.out.below B1.out HQR.out).mod (Mod.of_grown g2) (fun e => (HNE.out r e.symm).1 rfl))
           have c2 : w2.cell? ⟨r, q, none⟩ = some (.slice (some a) n cap) := CB2.out.at_ HQ.out
           have f2 : w2.frozen? ⟨r, q, none⟩ = false := CB2.out.free q
           clear o2 g2))
      go_ret
      exact fin_cut HC.out HNE.out O1.out B1.out O2.out G2.out CB2.out
  rcases Nat.lt_or_ge n most with hgt | hge
  · have hmin : ¬ (most : Int) < (n : Int) := by omega
    have hmin2 : (n : Int) < (most : Int) := by omega
    have hkm : n = k := by omega
    subst hkm
    cases A with
    | none =>
      clear hrb hnl hk ho hcb hq hn hlt hm
      go_enter Try.func58, Try.ntmps58
      go_wp2_with (first
        | (go_at_call 57
           refine CL.out.mono ?_
           rintro e w1 ⟨A', c', rfl, o1, b1⟩
           have O1 := Lib.hid o1
           have B1 := Lib.hid b1
           have c1 : w1.cell? ⟨r, q, none⟩ = some (.slice none n cap) := (b1.cell HQR.out).trans C0.out
           clear o1 b1)
        | (go_at_call 61
           refine (DL.out w1 (HO.out.below B1.out)).mono ?_
           rintro e w2 ⟨rfl, o2, g2⟩
           have O2 := Lib.hid o2
           have G2 := Lib.hid g2
           have CB2 := Lib.hid (show CB w2 r T cs from (HC.out.below B1.out HQR.out).mod (Mod.of_grown g2) (fun e => (HNE.out r e.symm).1 rfl))
           have c2 : w2.cell? ⟨r, q, none⟩ = some (.slice none n cap) := CB2.out.at_ HQ.out
           have f2 : w2.frozen? ⟨r, q, none⟩ = false := CB2.out.free q
           clear o2 g2))
      go_ret
      exact fin_cut HC.out HNE.out O1.out B1.out O2.out G2.out CB2.out
    | some a =>
      clear hrb hnl hk ho hcb hq hn hlt hm
      go_enter Try.func58, Try.ntmps58
      go_wp2_with (first
        | (go_at_call 57
           refine CL.out.mono ?_
           rintro e w1 ⟨A', c', rfl, o1, b1⟩
           have O1 := Lib.hid o1
           have B1 := Lib.hid b1
           have c1 : w1.cell? ⟨r, q, none⟩ = some (.slice (some a) n cap) := (b1.cell HQR.out).trans C0.out
           clear o1 b1)
        | (go_at_call 61
           refine (DL.out w1 (HO.out.below B1.out)).mono ?_
           rintro e w2 ⟨rfl, o2, g2⟩
           have O2 := Lib.hid o2
           have G2 := Lib.hid g2
           have CB2 := Lib.hid (show CB w2 r T cs from (HC.out.below B1.out HQR.out).mod (Mod.of_grown g2) (fun e => (HNE.out r e.symm).1 rfl))
           have c2 : w2.cell? ⟨r, q, none⟩ = some (.slice (some a) n cap) := CB2.out.at_ HQ.out
           have f2 : w2.frozen? ⟨r, q, none⟩ = false := CB2.out.free q
           clear o2 g2))
      go_ret
      exact fin_cut HC.out HNE.out O1.out B1.out O2.out G2.out CB2.out
  · have hkm : n = k := by omega
    subst hkm
    have hmn : n = most := by omega
    subst hmn
    cases A with
    | none =>
      clear hrb hnl hk ho hcb hq hn hlt hm
      go_enter Try.func58, Try.ntmps58
      go_wp2_with (first
        | (go_at_call 57
           refine CL.out.mono ?_
           rintro e w1 ⟨A', c', rfl, o1, b1⟩
           have O1 := Lib.hid o1
           have B1 := Lib.hid b1
           have c1 : w1.cell? ⟨r, q, none⟩ = some (.slice none n cap) := (b1.cell HQR.out).trans C0.out
           clear o1 b1)
        | (go_at_call 61
           refine (DL.out w1 (HO.out.below B1.out)).mono ?_
           rintro e w2 ⟨rfl, o2, g2⟩
           have O2 := Lib.hid o2
           have G2 := Lib.hid g2
           have CB2 := Lib.hid (show CB w2 r T cs from (HC.out.below B1.out HQR.out).mod (Mod.of_grown g2) (fun e => (HNE.out r e.symm).1 rfl))
           have c2 : w2.cell? ⟨r, q, none⟩ = some (.slice none n cap) := CB2.out.at_ HQ.out
           have f2 : w2.frozen? ⟨r, q, none⟩ = false := CB2.out.free q
           clear o2 g2))
      go_ret
      exact fin_cut HC.out HNE.out O1.out B1.out O2.out G2.out CB2.out
    | some a =>
      clear hrb hnl hk ho hcb hq hn hlt hm
      go_enter Try.func58, Try.ntmps58
      go_wp2_with (first
        | (go_at_call 57
           refine CL.out.mono ?_
           rintro e w1 ⟨A', c', rfl, o1, b1⟩
           have O1 := Lib.hid o1
           have B1 := Lib.hid b1
           have c1 : w1.cell? ⟨r, q, none⟩ = some (.slice (some a) n cap) := (b1.cell HQR.out).trans C0.out
           clear o1 b1)
        | (go_at_call 61
           refine (DL.out w1 (HO.out.below B1.out)).mono ?_
           rintro e w2 ⟨rfl, o2, g2⟩
           have O2 := Lib.hid o2
           have G2 := Lib.hid g2
           have CB2 := Lib.hid (show CB w2 r T cs from (HC.out.below B1.out HQR.out).mod (Mod.of_grown g2) (fun e => (HNE.out r e.symm).1 rfl))
           have c2 : w2.cell? ⟨r, q, none⟩ = some (.slice (some a) n cap) := CB2.out.at_ HQ.out
           have f2 : w2.frozen? ⟨r, q, none⟩ = false := CB2.out.free q
           clear o2 g2))
      go_ret
      exact fin_cut HC.out HNE.out O1.out B1.out O2.out G2.out CB2.out
end Go.Proofs.Ytajfaplaaafjiaa
