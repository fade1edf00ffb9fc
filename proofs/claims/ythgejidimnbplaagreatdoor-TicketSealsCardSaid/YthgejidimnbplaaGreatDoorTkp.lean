/- Small lemmas for ticket's laws. -/
import Derived.Test.YthgejidimnbplaaGreatDoorTkg
import Derived.Test.YthgejidimnbplaaGreatDoorTkx
import Derived.Test.YthgejidimnbplaaGreatDoorTkd
import Derived.Test.YthgejidimnbplaaGreatDoorTko
import Derived.Test.YthgejidimnbplaaGreatDoorInl
namespace Go.Proofs.YthgejidimnbplaaGreatDoor
open Go.RowKit


theorem long_at (w : World) (t : TypeId) (ls : List ByteArray) (n : Nat) (R : Bool) (hn : ls.length = n) (hb : n ≤ 10) (hR : (ls.any fun s => decide (300 < s.size)) = R) :
    Calls Tryz.prog 5 #[.slice (some ⟨w.heap.size, 0, none⟩) n n] (w.alloc (.cells (ls.map Value.string).toArray t)) fun e w' => e = .returned (.bool R) ∧ w.grownBy w' none := by
  subst hR
  refine (long_any w.heap.size n ls _ hn hb (fun k s hs => ?_)).mono ?_
  · exact (CB.new w t (ls.map Value.string)).at_ (by rw [List.getElem?_map, hs]; rfl)
  · rintro e w' ⟨rfl, rfl⟩
    exact ⟨rfl, grown_alloc _ _ _⟩
theorem CB.new2 (w : World) (o1 o2 : Obj) (t : TypeId) (cs : List Value) : CB (((w.alloc o1).alloc o2).alloc (.cells cs.toArray t)) (w.heap.size + 1 + 1) t cs := by
  have := CB.new ((w.alloc o1).alloc o2) t cs
  rw [World.size_alloc, World.size_alloc] at this
  exact this
theorem nat_of_u64 {n : Int} (h : (Lit.int .u64 n).wf = true) : ∃ m : Nat, n = (m : Int) ∧ m < 18446744073709551616 := by
  have := bounds_u64 h
  exact ⟨n.toNat, by omega, by omega⟩
theorem size_list (s : ByteArray) : s.data.toList.length = s.size := rfl
theorem tReads_other {fs : List Fd} (h : ∀ f ∈ fs, chk f = 0) (hne : fs.map (·.1) ≠ [1, 2, 3, 4, 5, 6]) : tReads (bytesF fs) = false := by
  rw [tReads, decide_eq_false (valuesOf_other h hne), Bool.false_and]
theorem aReads_other {fs : List Fd} (h : ∀ f ∈ fs, chk f = 0) (hne : fs.map (·.1) ≠ [11, 12, 13, 14]) : aReads (bytesF fs) = false := by
  rw [aReads, decide_eq_false (valuesOf_other h hne), Bool.false_and]
theorem gReads_other {fs : List Fd} (h : ∀ f ∈ fs, chk f = 0) (hne : fs.map (·.1) ≠ [21, 22, 23, 24, 25, 26]) : gReads (bytesF fs) = false := by
  rw [gReads, decide_eq_false (valuesOf_other h hne), Bool.false_and]
/-- Two structs of the same cells are one. -/
theorem RB.row2 {w w' : World} {A : Option Addr} {l : List UInt8} {cap : Nat} (h : RB w w.heap.size A l cap) (hg : w.grownBy w' none) : RB w' w'.heap.size A l cap := (h.kept hg (Nat.le_refl _)).more hg.size

theorem grown_own6 {w a b : World} {row : Option Nat} (h : w.grownBy a none) (k : a.grownBy b row) (hr : ∀ x, row = some x → w.heap.size ≤ x) : w.grownBy b none := grownR h k hr
theorem CB.row6 {w w' : World} {g : Nat} {t : TypeId} {cs : List Value} {r : Option Nat} (h : CB w g t cs) (hg : w.grownBy w' r) (hr : ∀ x, r = some x → g < x) : CB w' g t cs := h.row hg (fun x hx => by have := hr x hx; omega)
end Go.Proofs.YthgejidimnbplaaGreatDoor
namespace Go.Proofs.YthgejidimnbplaaGreatDoor
open Go.RowKit

/-- What the document's ones that write answer. -/
def WroteR (w : World) (ok : Bool) (b : List UInt8) (e : Ending) (w' : World) : Prop :=
  w.grownBy w' none ∧ if ok = true then ∃ v, e = .returned (.tuple #[v, .int .i64 0]) ∧ IsB w' v b else ∃ v, e = .returned (.tuple #[v, .int .i64 1]) ∧ IsB w' v []
theorem WroteR.no {w w' : World} {v : Value} {b : List UInt8} (h : IsB w' v []) (hg : w.grownBy w' none) : WroteR w false b (.returned (.tuple #[v, .int .i64 1])) w' := ⟨hg, by rw [if_neg (by simp)]; exact ⟨v, rfl, h⟩⟩
theorem WroteR.yes {w w' : World} {v : Value} {b : List UInt8} (h : IsB w' v b) (hg : w.grownBy w' none) : WroteR w true b (.returned (.tuple #[v, .int .i64 0])) w' := ⟨hg, by rw [if_pos rfl]; exact ⟨v, rfl, h⟩⟩
end Go.Proofs.YthgejidimnbplaaGreatDoor
namespace Go.Proofs.YthgejidimnbplaaGreatDoor
open Go.RowKit

theorem valuesOf_lens {l : List UInt8} {ts : List Int} {vs : List (List UInt8)} (h : valuesOf l ts = (vs, 0)) : vs.length = ts.length ∧ ∀ v ∈ vs, v.length ≤ l.length :=
  ⟨by have := valuesOf_length (l := l) (ts := ts) (by rw [h]); rw [h] at this; exact this, fun v hv => valuesOf_le (l := l) (ts := ts) (by rw [h]; exact hv)⟩
theorem RB.kept2 {w w' : World} {A : Option Addr} {l : List UInt8} {cap : Nat} (h : RB w w.heap.size A l cap) (hg : w.grownBy w' none) : RB w' w'.heap.size A l cap := (h.kept hg (Nat.le_refl _)).more hg.size
theorem tOk_spec (lc ls : List UInt8) (st en fl : Int) : tOk lc ls st en fl = (parses lc && (parses ls && (spanOk st en && flagsOk fl))) := by
  unfold tOk
  rfl
set_option maxHeartbeats 1000000 in
theorem refRightT_any (c s : ByteArray) (lc ls k : List UInt8) (st en fl : Int) (w : World) (hc : c.data.toList = lc) (hs : s.data.toList = ls) (hk : k.length = 16) (hlc : lc.length ≤ 10000) (hls : ls.length ≤ 10000) :
    Calls Tryz.prog 8 #[.agg (tcells c s k st en fl).toArray] w fun e w' => e = .returned (.bool (tOk lc ls st en fl)) ∧ w.grownBy w' none := by
  have Hc := Lib.hid hc
  have HLc := Lib.hid hlc
  have Hs := Lib.hid hs
  have HLs := Lib.hid hls
  have B0 := Lib.hid (CB.new w 25 (tcells c s k st en fl))
  have G0 := Lib.hid (grown_alloc w (.cells (tcells c s k st en fl).toArray 25) none)
  have q0 := B0.out.at_ (tcells_c c s k st en fl hk)
  have HQs := Lib.hid (tcells_s c s k st en fl hk)
  have HQst := Lib.hid (tcells_st c s k st en fl hk)
  have HQen := Lib.hid (tcells_en c s k st en fl hk)
  have HQfl := Lib.hid (tcells_fl c s k st en fl hk)
  rw [tOk_spec]
  have TK0 := Lib.hid True.intro
  cases h1 : parses lc with
  | false =>
    have H1 := Lib.hid h1
    clear hc hlc hs hls hk h1
    simp only [Bool.false_and]
    go_enter Tryz.func8, Tryz.ntmps8
    go_wp2_with (first
      | (go_at_call 15; have hx := TK0; clear hx; refine (refNamed_any c lc Hc.out _ HLc.out).mono ?_; rintro e w1 ⟨rfl, g1⟩; rw [H1.out]; have G1 := Lib.hid (grown_trans' G0.out g1); have B1 := Lib.hid (B0.out.kept g1); have TK1 := Lib.hid True.intro; clear g1))
    go_ret
    exact ⟨rfl, G1.out⟩
  | true =>
    have H1 := Lib.hid h1
    clear h1
    cases h2 : parses ls with
    | false =>
      have H2 := Lib.hid h2
      clear hc hlc hs hls hk h2
      simp only [Bool.false_and, Bool.true_and]
      go_enter Tryz.func8, Tryz.ntmps8
      go_wp2_with (first
        | (go_at_call 15; have hx := TK1; clear hx; refine (refNamed_any s ls Hs.out _ HLs.out).mono ?_; rintro e w2 ⟨rfl, g1⟩; rw [H2.out]; have G2 := Lib.hid (grown_trans' G1.out g1); have B2 := Lib.hid (B1.out.kept g1); have TK2 := Lib.hid True.intro; clear g1)
        | (go_at_call 15; have hx := TK0; clear hx; refine (refNamed_any c lc Hc.out _ HLc.out).mono ?_; rintro e w1 ⟨rfl, g1⟩; rw [H1.out]; have G1 := Lib.hid (grown_trans' G0.out g1); have B1 := Lib.hid (B0.out.kept g1); have qs := (B0.out.kept g1).at_ HQs.out; have TK1 := Lib.hid True.intro; clear g1))
      go_ret
      exact ⟨rfl, G2.out⟩
    | true =>
      have H2 := Lib.hid h2
      clear h2
      clear hc hlc hs hls hk
      simp only [Bool.true_and]
      go_enter Tryz.func8, Tryz.ntmps8
      go_wp2_with (first
        | (go_at_call 16; refine (lastsRef_any st en fl _).mono ?_; rintro e wl ⟨rfl, rfl⟩)
        | (go_at_call 15; have hx := TK1; clear hx; refine (refNamed_any s ls Hs.out _ HLs.out).mono ?_; rintro e w2 ⟨rfl, g1⟩; rw [H2.out]; have G2 := Lib.hid (grown_trans' G1.out g1); have B2 := Lib.hid (B1.out.kept g1); have qst := (B1.out.kept g1).at_ HQst.out; have qen := (B1.out.kept g1).at_ HQen.out; have qfl := (B1.out.kept g1).at_ HQfl.out; have TK2 := Lib.hid True.intro; clear g1)
        | (go_at_call 15; have hx := TK0; clear hx; refine (refNamed_any c lc Hc.out _ HLc.out).mono ?_; rintro e w1 ⟨rfl, g1⟩; rw [H1.out]; have G1 := Lib.hid (grown_trans' G0.out g1); have B1 := Lib.hid (B0.out.kept g1); have qs := (B0.out.kept g1).at_ HQs.out; have TK1 := Lib.hid True.intro; clear g1))
      go_ret
      exact ⟨rfl, G2.out⟩

/-- What the operations of the drawn region yield. -/
def RktF (wk : World) (bV oV cV : Nat) (V0 : Option Addr) (m0 c0 : Nat) (v0 : List UInt8) (V1 : Option Addr) (m1 c1 : Nat) (v1 : List UInt8) (T3 : Int) (T4 : Int) (T5 : Int) (Ky : List UInt8) (RES : List Value) : Nat → Value → World → Prop
  | 0, v, _ => v = .slice (some ⟨bV, oV, none⟩) 6 cV
  | 1, v, _ => v = .pointer (some ⟨bV, oV, none⟩)
  | 2, v, _ => v = .slice V0 m0 c0
  | 3, v, _ => v = .string (ba v0)
  | 4, v, _ => v = .slice (some ⟨bV, oV, none⟩) 6 cV
  | 5, v, _ => v = .pointer (some ⟨bV, oV + 1, none⟩)
  | 6, v, _ => v = .slice V1 m1 c1
  | 7, v, _ => v = .string (ba v1)
  | 8, v, _ => v = .agg (bcells Ky).toArray
  | 9, v, _ => v = .int .i64 T3
  | 10, v, _ => v = .int .i64 T4
  | 11, v, _ => v = .int .i64 T5
  | 12, v, _ => v = .agg RES.toArray
  | 13, v, _ => v = .pointer (some ⟨wk.drew.heap.size, 0, none⟩)
  | 14, _, x => CB x wk.drew.heap.size 25 RES
  | _, _, _ => True
theorem RktF.next {wk : World} {bV oV cV : Nat} {V0 : Option Addr} {m0 c0 : Nat} {v0 : List UInt8} {V1 : Option Addr} {m1 c1 : Nat} {v1 : List UInt8} {T3 : Int} {T4 : Int} {T5 : Int} {Ky : List UInt8} {RES : List Value} : ∀ (j : Nat) (v : Value) (x y : World), Wr1 wk.drew.heap.size 25 RES x y → RktF wk bV oV cV V0 m0 c0 v0 V1 m1 c1 v1 T3 T4 T5 Ky RES j v x → RktF wk bV oV cV V0 m0 c0 v0 V1 m1 c1 v1 T3 T4 T5 Ky RES j v y
  | 0, _, _, _, _, h => h
  | 1, _, _, _, _, h => h
  | 2, _, _, _, _, h => h
  | 3, _, _, _, _, h => h
  | 4, _, _, _, _, h => h
  | 5, _, _, _, _, h => h
  | 6, _, _, _, _, h => h
  | 7, _, _, _, _, h => h
  | 8, _, _, _, _, h => h
  | 9, _, _, _, _, h => h
  | 10, _, _, _, _, h => h
  | 11, _, _, _, _, h => h
  | 12, _, _, _, _, h => h
  | 13, _, _, _, _, h => h
  | 14, _, _, _, hg, h => CB.wr1 hg h
  | _ + 15, _, _, _, _, _ => by simp [RktF]

theorem gOk_spec (ls : List UInt8) (st en fl : Int) : gOk ls st en fl = (parses ls && (spanOk st en && flagsOk fl)) := by
  unfold gOk
  rfl
end Go.Proofs.YthgejidimnbplaaGreatDoor
