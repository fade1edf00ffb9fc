/- By sums: sumBox. -/
import Derived.Test.YtaanhancjmigdaaDoorSek
namespace Go.Proofs.YtaanhancjmigdaaDoor
open Go.RowKit Go.Maps

/-- What a box by sums holds ahead of its sum. -/
def aheadS (key : List UInt8) (u : Int) (n : Nat) (l : List UInt8) : List UInt8 := wide8 n ++ turnS key u n l
theorem aheadS_len (key : List UInt8) (u : Int) (n : Nat) (l : List UInt8) : (aheadS key u n l).length = 8 + l.length := by unfold aheadS; rw [List.length_append, wide8_len, turnS_len]
/-- A box by sums. -/
def boxS (key : List UInt8) (u : Int) (n : Nat) (l : List UInt8) : List UInt8 := aheadS key u n l ++ sumS key u (aheadS key u n l)
theorem boxS_len (key : List UInt8) (u : Int) (n : Nat) (l : List UInt8) : (boxS key u n l).length = l.length + 24 := by unfold boxS; rw [List.length_append, aheadS_len, sumS_len]; omega
theorem boxS_num (key : List UInt8) (u : Int) (n : Nat) (l : List UInt8) : (boxS key u n l).take 8 = wide8 n := by
  unfold boxS aheadS
  rw [List.append_assoc]
  exact List.take_left' (wide8_len n)
def SelF (B g9 n : Nat) (key : List UInt8) (u : Int) (A : Option Addr) (m cap : Nat) (l : List UInt8) (i : Nat) (v : Value) (x : World) : Prop :=
  match i with
  | 0 => v = .slice (some ⟨g9, 0, none⟩) 8 8
  | 1 => v = .int .u64 n
  | 2 => v = .agg (bcells key).toArray
  | 3 => v = .int .i64 u
  | 4 => v = .slice A m cap
  | 5 => OwnB x B 5 v (turnS key u n l)
  | 6 => OwnZ x B 5 v (aheadS key u n l)
  | 7 => OwnZ x B 5 v (aheadS key u n l)
  | _ => True
theorem SelF.kept {B g9 n : Nat} {key : List UInt8} {u : Int} {A : Option Addr} {m cap : Nat} {l : List UInt8} (i : Nat) (v : Value) (x y : World) (hg : x.grownBy y none) (h : SelF B g9 n key u A m cap l i v x) : SelF B g9 n key u A m cap l i v y := by
  unfold SelF at *
  split at h
  · exact h
  · exact h
  · exact h
  · exact h
  · exact h
  · exact OwnB.kept_ h hg (fun z e => by cases e)
  · exact OwnZ.kept h hg
  · exact OwnZ.kept h hg
  · trivial

set_option maxRecDepth 10000 in
set_option maxHeartbeats 4000000 in
theorem sumBox_any (n : Nat) (key : List UInt8) (u : Int) (A : Option Addr) (l : List UInt8) (m cap : Nat) (w : World) (hnn : n < 18446744073709551616) (hT : TB w) (hk : key.length = 16) (hn : l.length = m) (h : RB w w.heap.size A l cap) (hm : m ≤ 50000) :
    Calls Tryd.prog 30 #[.int .u64 n, .agg (bcells key).toArray, .int .i64 u, .slice A m cap] w fun e w' => ∃ v, e = .returned v ∧ OwnB w' w.heap.size 5 v (boxS key u n l) ∧ w.grownBy w' none := by
  have HNN := Lib.hid hnn
  have HT := Lib.hid hT
  have HK := Lib.hid hk
  have HN := Lib.hid hn
  have HM := Lib.hid hm
  have H0 := Lib.hid h
  have G0 := Lib.hid (grown_alloc w (.cells (bcells key).toArray 23) none)
  have K0 := Lib.hid (CB.new w 23 (bcells key))
  have LK := Lib.hid (show (bcells key).length = 16 by rw [bcells_length, hk])
  have LW := Lib.hid (show (bcells (wide8 n)).length = 8 by rw [bcells_length, wide8_len])
  have L8 := Lib.hid (show (bcells (zeros 8)).length = 8 by rw [bcells_length, zeros_length])
  have L16 := Lib.hid (show (bcells (zeros 16)).length = 16 by rw [bcells_length, zeros_length])
  have LT := Lib.hid (show (turnS key u n l).length = m by rw [turnS_len, hn])
  have LA := Lib.hid (show (aheadS key u n l).length = 8 + m by rw [aheadS_len, hn])
  have LS := Lib.hid (sumS_len key u (aheadS key u n l))
  have hg0 : w.heap.size < (w.alloc (.cells (bcells key).toArray 23)).heap.size := by rw [World.size_alloc]; omega
  have HG0 := Lib.hid hg0
  clear hnn hT hk hn h hm hg0
  go_enter Tryd.func30, Tryd.ntmps30
  go_wp2_with (first
    | (go_at_call 40; refine (widen_any n _ HNN.out).mono ?_; rintro e w1 ⟨rfl, g⟩; have K1 := Lib.hid (K0.out.kept g); have G1 := Lib.hid (grown_trans' G0.out g); clear g)
    | refine wpList_allocC zero8_run rfl rfl ?_
    | (refine wpList_storeC (off := 0) (p := bcells (wide8 n)) agg8.hi rfl (.tmp 9) (.tmp 13) rfl (.agg (bcells (wide8 n)).toArray) rfl (bcells_one _) (CB.new w1 77 (bcells (zeros 8))) LW.out (by rw [L8.out]; omega) (by first | rfl | go_simp) (by first | rfl | go_simp) ?_; intro w2 h2 g2; rw [over_all _ _ (Nat.le_of_eq (by rw [L8.out, LW.out]))] at h2; have B2 := Lib.hid h2; have K2 := Lib.hid ((K1.out.alloc _).grown g2 (by have := K1.out.lt; omega)); have G2 := Lib.hid (none_new (grown_trans' G1.out (grown_alloc _ _ none)) g2 G1.out.size); clear h2 g2))
  have HG9 := Lib.hid (show w.heap.size ≤ w1.heap.size from G1.out.size)
  obtain ⟨g9, hg9⟩ : ∃ g, w1.heap.size = g := ⟨_, rfl⟩
  rw [hg9] at B2 HG9
  simp only [hg9]
  refine Inv.region_made (n := 8) (ds := [some 14, some 15, some 16, some 17, some 18, some 19, some 20, some 10]) (fun x => CB x w.heap.size 23 (bcells key) ∧ CB x g9 77 (bcells (wide8 n)) ∧ w.grownBy x none) (SelF w.heap.size g9 n key u A m cap l) (by kernel_rfl) (by kernel_rfl) rfl (by kernel_rfl) (fun x y hg hG => ⟨hG.1.kept hg, hG.2.1.kept hg, grown_trans' hG.2.2 hg⟩) (fun j v x y hg _ hF => SelF.kept j v x y hg hF) ⟨K2.out.drew, B2.out.drew, grown_drew G2.out⟩ ⟨⟨⟨⟨⟨⟨⟨⟨trivial, ?_⟩, ?_⟩, ?_⟩, ?_⟩, ?_⟩, ?_⟩, ?_⟩, ?_⟩ ?_
  · refine Inv.duty_plain rfl rfl (fun L vs a x hG dep up val ev out K hK => ?_)
    have e9 : a.eval (.tmp 9) = .pointer (some ⟨g9, 0, none⟩) := (out 9 (by kernel_rfl)).trans rfl
    refine Inv.wp_value (v := .slice (some ⟨g9, 0, none⟩) 8 8) ?_ (hK.out _ _ (World.grownBy.refl _ _) rfl)
    clear hG hK K dep up val ev out
    generalize a.eval = ρ at *
    (simp [execOp, go_sem, *]; done)
  · refine Inv.duty_plain rfl rfl (fun L vs a x hG dep up val ev out K hK => ?_)
    have e0 : a.eval (.tmp 0) = .int .u64 n := (out 0 (by kernel_rfl)).trans rfl
    refine Inv.wp_value (v := .int .u64 n) ?_ (hK.out _ _ (World.grownBy.refl _ _) rfl)
    clear hG hK K dep up val ev out
    generalize a.eval = ρ at *
    (simp [execOp, go_sem, *]; done)
  · refine Inv.duty_plain rfl rfl (fun L vs a x hG dep up val ev out K hK => ?_)
    have e5 : a.eval (.tmp 5) = .pointer (some ⟨w.heap.size, 0, none⟩) := (out 5 (by kernel_rfl)).trans rfl
    exact wp_loadC aggKy (.tmp 5) rfl hG.1 (take_all LK.out) (by rw [LK.out]; omega) e5 (hK.out _ _ (World.grownBy.refl _ _) rfl)
  · refine Inv.duty_plain rfl rfl (fun L vs a x hG dep up val ev out K hK => ?_)
    have e2 : a.eval (.tmp 2) = .int .i64 u := (out 2 (by kernel_rfl)).trans rfl
    refine Inv.wp_value (v := .int .i64 u) ?_ (hK.out _ _ (World.grownBy.refl _ _) rfl)
    clear hG hK K dep up val ev out
    generalize a.eval = ρ at *
    (simp [execOp, go_sem, *]; done)
  · refine Inv.duty_plain rfl rfl (fun L vs a x hG dep up val ev out K hK => ?_)
    have e3 : a.eval (.tmp 3) = .slice A m cap := (out 3 (by kernel_rfl)).trans rfl
    refine Inv.wp_value (v := .slice A m cap) ?_ (hK.out _ _ (World.grownBy.refl _ _) rfl)
    clear hG hK K dep up val ev out
    generalize a.eval = ρ at *
    (simp [execOp, go_sem, *]; done)
  · refine Inv.duty_plain rfl rfl (fun L vs a x hG dep up val ev out K hK => ?_)
    have ef : ∀ f, a.eval (.func f) = .func (.func f) #[] #[] := fun _ => rfl
    have e15 : a.eval (.tmp 15) = .int .u64 n := (ev 1 15 (dep 1 (by kernel_rfl)) (by kernel_rfl)).trans (val 1 (dep 1 (by kernel_rfl)))
    have e16 : a.eval (.tmp 16) = .agg (bcells key).toArray := (ev 2 16 (dep 2 (by kernel_rfl)) (by kernel_rfl)).trans (val 2 (dep 2 (by kernel_rfl)))
    have e17 : a.eval (.tmp 17) = .int .i64 u := (ev 3 17 (dep 3 (by kernel_rfl)) (by kernel_rfl)).trans (val 3 (dep 3 (by kernel_rfl)))
    have e18 : a.eval (.tmp 18) = .slice A m cap := (ev 4 18 (dep 4 (by kernel_rfl)) (by kernel_rfl)).trans (val 4 (dep 4 (by kernel_rfl)))
    refine Inv.wp_call (by clear hG hK K dep up val ev out; generalize a.eval = ρ at *; (simp [execOp, go_sem, *]; done)) ((sturn_any n key u A l m cap x (HT.out.grown hG.2.2 (fun e => by cases e)) HK.out HN.out (H0.out.keptS hG.2.2) (by have := HM.out; omega)).mono ?_)
    rintro e w' ⟨v, rfl, o, g⟩
    exact ⟨_, rfl, hK.out _ _ g (o.base_ hG.2.2.size)⟩
  · refine Inv.duty_plain rfl rfl (fun L vs a x hG dep up val ev out K hK => ?_)
    have e14 : a.eval (.tmp 14) = .slice (some ⟨g9, 0, none⟩) 8 8 := (ev 0 14 (dep 0 (by kernel_rfl)) (by kernel_rfl)).trans (val 0 (dep 0 (by kernel_rfl)))
    have f19 : OwnB x w.heap.size 5 (vs 5) (turnS key u n l) := val 5 (dep 5 (by kernel_rfl))
    have e19 : a.eval (.tmp 19) = vs 5 := ev 5 19 (dep 5 (by kernel_rfl)) (by kernel_rfl)
    obtain ⟨A3, c3, hv3, r3, -⟩ := f19.shape
    exact wp_appF byteT rfl (.tmp 14) (.tmp 19) rfl hG.2.1 r3 (by rw [wide8_len, LT.out]; have := HM.out; omega) hG.2.2.size HG9.out (by rw [wide8_len]; exact e14) (e19.trans hv3) (fun v' w' hz hg => hK.out _ _ hg hz)
  · refine Inv.duty_plain rfl rfl (fun L vs a x hG dep up val ev out K hK => ?_)
    have f20 : OwnZ x w.heap.size 5 (vs 6) (aheadS key u n l) := val 6 (dep 6 (by kernel_rfl))
    have e20 : a.eval (.tmp 20) = vs 6 := ev 6 20 (dep 6 (by kernel_rfl)) (by kernel_rfl)
    refine Inv.wp_value (v := vs 6) ?_ (hK.out _ _ (World.grownBy.refl _ _) f20)
    clear hG hK K dep up val ev out
    generalize a.eval = ρ at *
    (simp [execOp, go_sem, *]; done)
  intro vs w4 hG hv
  have o7 : OwnZ w4 w.heap.size 5 (vs 7) (aheadS key u n l) := hv 7 (by omega)
  have K4 := Lib.hid hG.1
  have G4 := Lib.hid hG.2.2
  obtain ⟨A7, c7, hv7, r7⟩ := o7.shape (by rw [LA.out]; have := HM.out; unfold maxLen; omega)
  rw [LA.out] at hv7
  rw [hv7] at o7
  have O7 := Lib.hid o7
  have R7 := Lib.hid r7
  clear hG hv o7 r7
  simp only [Inv.putAll, Act.put, List.setIfInBounds_toArray, List.set_cons_zero, List.set_cons_succ, Nat.zero_add, Nat.reduceAdd]
  rw [hv7]
  clear hv7
  go_wp2_with (first
    | (refine wpList_loadC (off := 0) (p := bcells key) aggKy rfl (.tmp 5) rfl K4.out (take_all LK.out) (by rw [LK.out]; omega) (by first | rfl | go_simp) ?_)
    | (go_at_call 45; refine (sumOf_any key u A7 (aheadS key u n l) (8 + m) c7 _ (HT.out.grown G4.out (fun e => by cases e)) HK.out LA.out R7.out (by have := HM.out; omega)).mono ?_; rintro e w5 ⟨rfl, g5⟩; have O5 := Lib.hid (O7.out.kept g5); have G5 := Lib.hid (grown_trans' G4.out g5); clear g5)
    | refine wpList_allocC zeroS_run rfl rfl ?_
    | (refine wpList_storeC (off := 0) (p := bcells (sumS key u (aheadS key u n l))) aggS16.hi rfl (.tmp 11) (.tmp 24) rfl (.agg (bcells (sumS key u (aheadS key u n l))).toArray) rfl (bcells_one _) (CB.new w5 22 (bcells (zeros 16))) (by rw [bcells_length, LS.out]) (by rw [L16.out]; omega) (by first | rfl | go_simp) (by first | rfl | go_simp) ?_; intro w6 h6 g6; rw [over_all _ _ (Nat.le_of_eq (by rw [L16.out, bcells_length, LS.out]))] at h6; have G56 := Lib.hid (none_new (grown_alloc w5 (.cells (bcells (zeros 16)).toArray 22) none) g6 (Nat.le_refl _)); have B6 := Lib.hid h6; have O6 := Lib.hid (O5.out.kept G56.out); have G6 := Lib.hid (grown_trans' G5.out G56.out); clear h6 g6)
    | (at_builtin; refine wpList_appZZ byteT rfl (.tmp 25) (.tmp 26) rfl O6.out (RB.ofCB B6.out (by rw [LS.out]; decide)) (fun e => by have := LS.out; rw [e] at this; cases this) (by first | rfl | go_simp) (by first | (rw [LS.out]; rfl) | go_simp) (by rw [LA.out, LS.out]; have := HM.out; omega) G6.out.size ?_; intro v7 w7 r o g hr; have O9 := Lib.hid o; have G9 := Lib.hid (grownR G6.out g hr); clear o g hr))
  go_ret
  exact ⟨_, rfl, O9.out, G9.out⟩
end Go.Proofs.YtaanhancjmigdaaDoor
