/- By sums: openSum. -/
import Derived.Test.YtaanhancjmigdaaDoorSem
namespace Go.Proofs.YtaanhancjmigdaaDoor
open Go.RowKit Go.Maps

/-- What is opened by sums. -/
def openT (key : List UInt8) (u : Int) (box : List UInt8) : Option (List UInt8) :=
  if 24 ≤ box.length ∧ box.length ≤ 2024 ∧ box.drop (box.length - 16) = sumS key u (box.take (box.length - 16)) then some (turnS key u (numOf (box.take 8)) ((box.take (box.length - 16)).drop 8)) else none
def SepF3 (b off n q cap : Nat) (i : Nat) (v : Value) (_ : World) : Prop :=
  match i with
  | 0 => v = .slice (some ⟨b, off, none⟩) n cap
  | 1 => v = .slice (some ⟨b, off, none⟩) n cap
  | 2 => v = .int .i64 n
  | 3 => v = .int .i64 q
  | 4 => v = .slice (some ⟨b, off, none⟩) q cap
  | 5 => v = .slice (some ⟨b, off, none⟩) n cap
  | 6 => v = .slice (some ⟨b, off, none⟩) n cap
  | 7 => v = .int .i64 n
  | 8 => v = .int .i64 q
  | 9 => v = .slice (some ⟨b, off + q, none⟩) 16 (cap - q)
  | 10 => v = .slice (some ⟨b, off, none⟩) q cap
  | 11 => v = .slice (some ⟨b, off + q, none⟩) 16 (cap - q)
  | _ => True
def SepF7 (B b off q m cap k : Nat) (key : List UInt8) (u : Int) (l : List UInt8) (i : Nat) (v : Value) (x : World) : Prop :=
  match i with
  | 0 => v = .slice (some ⟨b, off, none⟩) q cap
  | 1 => v = .slice (some ⟨b, off, none⟩) 8 cap
  | 2 => v = .int .u64 k
  | 3 => v = .agg (bcells key).toArray
  | 4 => v = .int .i64 u
  | 5 => v = .slice (some ⟨b, off, none⟩) q cap
  | 6 => v = .slice (some ⟨b, off + 8, none⟩) m (cap - 8)
  | 7 => OwnB x B 5 v (turnS key u k l)
  | 8 => OwnB x B 5 v (turnS key u k l)
  | 9 => v = .int .i64 0
  | _ => True
theorem SepF7.kept {B b off q m cap k : Nat} {key : List UInt8} {u : Int} {l : List UInt8} (i : Nat) (v : Value) (x y : World) (hg : x.grownBy y none) (h : SepF7 B b off q m cap k key u l i v x) : SepF7 B b off q m cap k key u l i v y := by
  unfold SepF7 at *
  split at h <;> first | exact h | exact OwnB.kept_ h hg (fun z e => by cases e)

set_option maxRecDepth 10000 in
set_option maxHeartbeats 4000000 in
theorem openSum_any (key : List UInt8) (u : Int) (A : Option Addr) (box : List UInt8) (n cap : Nat) (w : World) (hT : TB w) (hk : key.length = 16) (hn : box.length = n) (hp : RB w w.heap.size A box cap) :
    Calls Tryd.prog 34 #[.agg (bcells key).toArray, .int .i64 u, .slice A n cap] w fun e w' => Opened w (openT key u box) e w' := by
  have G0 := Lib.hid (grown_alloc w (.cells (bcells key).toArray 23) none)
  by_cases h24 : n < 24
  · have hi : (n : Int) < 24 := by omega
    have HO := Lib.hid (show openT key u box = none by unfold openT; rw [if_neg (by omega)])
    clear hT hk hn hp h24
    go_enter Tryd.func34, Tryd.ntmps34
    go_wp2
    go_ret2
    exact Opened.no HO.out G0.out
  by_cases hbig : 2024 < n
  · have hi : ¬ (n : Int) < 24 := by omega
    have hi2 : (2024 : Int) < (n : Int) := by omega
    have HO := Lib.hid (show openT key u box = none by unfold openT; rw [if_neg (by omega)])
    clear hT hk hn hp h24 hbig
    go_enter Tryd.func34, Tryd.ntmps34
    go_wp2
    go_ret2
    exact Opened.no HO.out G0.out
  obtain ⟨b, off, rfl, -, -⟩ := hp.open_ (by omega)
  have hcap := hp.1
  rw [hn] at hcap
  obtain ⟨q, hq⟩ : ∃ q, n - 16 = q := ⟨_, rfl⟩
  obtain ⟨m, hm⟩ : ∃ m, q - 8 = m := ⟨_, rfl⟩
  obtain ⟨ah, hah⟩ : ∃ l, box.take q = l := ⟨_, rfl⟩
  obtain ⟨to, hto⟩ : ∃ l, box.drop q = l := ⟨_, rfl⟩
  obtain ⟨S, hS⟩ : ∃ l, sumS key u ah = l := ⟨_, rfl⟩
  obtain ⟨k, hkk⟩ : ∃ k, numOf (box.take 8) = k := ⟨_, rfl⟩
  have HAL := Lib.hid (show ah.length = q by rw [← hah, List.length_take]; omega)
  have HTL := Lib.hid (show to.length = 16 by rw [← hto, List.length_drop]; omega)
  have HSS := Lib.hid hS
  have HSL := Lib.hid (show S.length = 16 by rw [← hS, sumS_len])
  have h88 : ah.take 8 = box.take 8 := by rw [← hah, List.take_take, Nat.min_eq_left (by omega)]
  have HKK := Lib.hid (show numOf (ah.take 8) = k by rw [h88, hkk])
  have H8L := Lib.hid (show (ah.take 8).length = 8 by rw [List.length_take, HAL.out]; omega)
  have HML := Lib.hid (show (ah.drop 8).length = m by rw [List.length_drop, HAL.out]; omega)
  have RA := Lib.hid (show RB w w.heap.size (some ⟨b, off, none⟩) ah cap by rw [← hah]; exact hp.head q)
  have RT := Lib.hid (show RB w w.heap.size (some ⟨b, off + q, none⟩) to (cap - q) by
    have := hp.cut (k := q) (by omega)
    rw [if_neg (by omega), hto, Option.map_some, Addr.add_lit] at this
    exact this)
  have R8 := Lib.hid (RA.out.head 8)
  have RM := Lib.hid (show RB w w.heap.size (some ⟨b, off + 8, none⟩) (ah.drop 8) (cap - 8) by
    have := RA.out.cut (k := 8) (by rw [HAL.out]; omega)
    rw [if_neg (by omega)] at this
    exact this)
  have HO := Lib.hid (show openT key u box = if to = S then some (turnS key u k (ah.drop 8)) else none by
    unfold openT
    rw [hn, hq, hah, hto, hS, hkk]
    by_cases e : to = S
    · rw [if_pos e, if_pos ⟨by omega, by omega, e⟩]
    · rw [if_neg e, if_neg (fun h => e h.2.2)])
  have hi : ¬ (n : Int) < 24 := by omega
  have hi2 : ¬ (2024 : Int) < (n : Int) := by omega
  have hw1 : IntKind.i64.wrap ((n : Int) - 16) = (q : Int) := by
    have h : IntKind.i64.wrap ((n : Int) - 16) = if 9223372036854775808 ≤ ((n : Int) - 16) % 18446744073709551616 then ((n : Int) - 16) % 18446744073709551616 - 18446744073709551616 else ((n : Int) - 16) % 18446744073709551616 := by
      simp [IntKind.wrap, IntKind.bits, IntKind.signed]
    rw [h]
    split <;> omega
  have a1 : (q : Int) ≤ (n : Int) := by omega
  have a2 : (n : Int) ≤ (cap : Int) := by omega
  have a3 : (q : Int) ≤ (cap : Int) := by omega
  have a4 : ¬ cap = q := by omega
  have a5 : n - q = 16 := by omega
  have b1 : (8 : Int) ≤ (q : Int) := by omega
  have b2 : (8 : Int) ≤ (cap : Int) := by omega
  have b3 : ¬ cap = 8 := by omega
  have b4 : q - 8 = m := hm
  have a6 : ¬ q = cap := by omega
  have b5 : ¬ 8 = cap := by omega
  have a7 : q ≤ n := by omega
  have a8 : n ≤ cap := by omega
  have a9 : q ≤ cap := by omega
  have b6 : 8 ≤ q := by omega
  have b7 : 8 ≤ cap := by omega
  have HMM := Lib.hid (show m ≤ 2024 by omega)
  have HQQ := Lib.hid (show q ≤ 2024 by omega)
  have HT := Lib.hid hT
  have HK := Lib.hid hk
  have K0 := Lib.hid (CB.new w 23 (bcells key))
  have LK := Lib.hid (show (bcells key).length = 16 by rw [bcells_length, hk])
  have L16 := Lib.hid (show (bcells (zeros 16)).length = 16 by rw [bcells_length, zeros_length])
  clear hT hk hn hp h24 hbig hcap hq hm hah hto hS hkk h88
  go_enter Tryd.func34, Tryd.ntmps34
  go_wp2
  refine Inv.region_made (n := 12) (ds := [some 19, some 20, some 21, some 22, some 23, some 24, some 25, some 26, some 27, some 28, some 8, some 9]) (fun x => CB x w.heap.size 23 (bcells key) ∧ w.grownBy x none) (SepF3 b off n q cap) (by kernel_rfl) (by kernel_rfl) rfl (by kernel_rfl) (fun x y hg hG => ⟨hG.1.kept hg, grown_trans' hG.2 hg⟩) (fun j v x y hg _ hF => hF) ⟨K0.out.drew, grown_drew G0.out⟩ ⟨⟨⟨⟨⟨⟨⟨⟨⟨⟨⟨⟨trivial, ?_⟩, ?_⟩, ?_⟩, ?_⟩, ?_⟩, ?_⟩, ?_⟩, ?_⟩, ?_⟩, ?_⟩, ?_⟩, ?_⟩ ?_
  · refine Inv.duty_plain rfl rfl (fun L vs a x hG dep up val ev out K hK => ?_)
    have ec : ∀ v, a.eval (.const v) = v := fun _ => rfl
    have e2 : a.eval (.tmp 2) = .slice (some ⟨b, off, none⟩) n cap := (out 2 (by kernel_rfl)).trans rfl
    refine Inv.wp_value (v := .slice (some ⟨b, off, none⟩) n cap) ?_ (hK.out _ _ (World.grownBy.refl _ _) rfl)
    clear hG hK K dep up val ev out
    generalize a.eval = ρ at *
    (simp [execOp, go_sem, *]; done)
  · refine Inv.duty_plain rfl rfl (fun L vs a x hG dep up val ev out K hK => ?_)
    have ec : ∀ v, a.eval (.const v) = v := fun _ => rfl
    have e2 : a.eval (.tmp 2) = .slice (some ⟨b, off, none⟩) n cap := (out 2 (by kernel_rfl)).trans rfl
    refine Inv.wp_value (v := .slice (some ⟨b, off, none⟩) n cap) ?_ (hK.out _ _ (World.grownBy.refl _ _) rfl)
    clear hG hK K dep up val ev out
    generalize a.eval = ρ at *
    (simp [execOp, go_sem, *]; done)
  · refine Inv.duty_plain rfl rfl (fun L vs a x hG dep up val ev out K hK => ?_)
    have ec : ∀ v, a.eval (.const v) = v := fun _ => rfl
    have e20 : a.eval (.tmp 20) = .slice (some ⟨b, off, none⟩) n cap := (ev 1 20 (dep 1 (by kernel_rfl)) (by kernel_rfl)).trans (val 1 (dep 1 (by kernel_rfl)))
    refine Inv.wp_value (v := .int .i64 n) ?_ (hK.out _ _ (World.grownBy.refl _ _) rfl)
    clear hG hK K dep up val ev out
    generalize a.eval = ρ at *
    (simp [execOp, go_sem, *]; done)
  · refine Inv.duty_plain rfl rfl (fun L vs a x hG dep up val ev out K hK => ?_)
    have ec : ∀ v, a.eval (.const v) = v := fun _ => rfl
    have e21 : a.eval (.tmp 21) = .int .i64 n := (ev 2 21 (dep 2 (by kernel_rfl)) (by kernel_rfl)).trans (val 2 (dep 2 (by kernel_rfl)))
    refine Inv.wp_value (v := .int .i64 q) ?_ (hK.out _ _ (World.grownBy.refl _ _) rfl)
    clear hG hK K dep up val ev out
    generalize a.eval = ρ at *
    (simp [execOp, go_sem, *]; done)
  · refine Inv.duty_plain rfl rfl (fun L vs a x hG dep up val ev out K hK => ?_)
    have ec : ∀ v, a.eval (.const v) = v := fun _ => rfl
    have e19 : a.eval (.tmp 19) = .slice (some ⟨b, off, none⟩) n cap := (ev 0 19 (dep 0 (by kernel_rfl)) (by kernel_rfl)).trans (val 0 (dep 0 (by kernel_rfl)))
    have e22 : a.eval (.tmp 22) = .int .i64 q := (ev 3 22 (dep 3 (by kernel_rfl)) (by kernel_rfl)).trans (val 3 (dep 3 (by kernel_rfl)))
    refine Inv.wp_value (v := .slice (some ⟨b, off, none⟩) q cap) ?_ (hK.out _ _ (World.grownBy.refl _ _) rfl)
    clear hG hK K dep up val ev out
    generalize a.eval = ρ at *
    (simp [execOp, go_sem, *]; done)
  · refine Inv.duty_plain rfl rfl (fun L vs a x hG dep up val ev out K hK => ?_)
    have ec : ∀ v, a.eval (.const v) = v := fun _ => rfl
    have e2 : a.eval (.tmp 2) = .slice (some ⟨b, off, none⟩) n cap := (out 2 (by kernel_rfl)).trans rfl
    refine Inv.wp_value (v := .slice (some ⟨b, off, none⟩) n cap) ?_ (hK.out _ _ (World.grownBy.refl _ _) rfl)
    clear hG hK K dep up val ev out
    generalize a.eval = ρ at *
    (simp [execOp, go_sem, *]; done)
  · refine Inv.duty_plain rfl rfl (fun L vs a x hG dep up val ev out K hK => ?_)
    have ec : ∀ v, a.eval (.const v) = v := fun _ => rfl
    have e2 : a.eval (.tmp 2) = .slice (some ⟨b, off, none⟩) n cap := (out 2 (by kernel_rfl)).trans rfl
    refine Inv.wp_value (v := .slice (some ⟨b, off, none⟩) n cap) ?_ (hK.out _ _ (World.grownBy.refl _ _) rfl)
    clear hG hK K dep up val ev out
    generalize a.eval = ρ at *
    (simp [execOp, go_sem, *]; done)
  · refine Inv.duty_plain rfl rfl (fun L vs a x hG dep up val ev out K hK => ?_)
    have ec : ∀ v, a.eval (.const v) = v := fun _ => rfl
    have e25 : a.eval (.tmp 25) = .slice (some ⟨b, off, none⟩) n cap := (ev 6 25 (dep 6 (by kernel_rfl)) (by kernel_rfl)).trans (val 6 (dep 6 (by kernel_rfl)))
    refine Inv.wp_value (v := .int .i64 n) ?_ (hK.out _ _ (World.grownBy.refl _ _) rfl)
    clear hG hK K dep up val ev out
    generalize a.eval = ρ at *
    (simp [execOp, go_sem, *]; done)
  · refine Inv.duty_plain rfl rfl (fun L vs a x hG dep up val ev out K hK => ?_)
    have ec : ∀ v, a.eval (.const v) = v := fun _ => rfl
    have e26 : a.eval (.tmp 26) = .int .i64 n := (ev 7 26 (dep 7 (by kernel_rfl)) (by kernel_rfl)).trans (val 7 (dep 7 (by kernel_rfl)))
    refine Inv.wp_value (v := .int .i64 q) ?_ (hK.out _ _ (World.grownBy.refl _ _) rfl)
    clear hG hK K dep up val ev out
    generalize a.eval = ρ at *
    (simp [execOp, go_sem, *]; done)
  · refine Inv.duty_plain rfl rfl (fun L vs a x hG dep up val ev out K hK => ?_)
    have ec : ∀ v, a.eval (.const v) = v := fun _ => rfl
    have e24 : a.eval (.tmp 24) = .slice (some ⟨b, off, none⟩) n cap := (ev 5 24 (dep 5 (by kernel_rfl)) (by kernel_rfl)).trans (val 5 (dep 5 (by kernel_rfl)))
    have e27 : a.eval (.tmp 27) = .int .i64 q := (ev 8 27 (dep 8 (by kernel_rfl)) (by kernel_rfl)).trans (val 8 (dep 8 (by kernel_rfl)))
    refine Inv.wp_value (v := .slice (some ⟨b, off + q, none⟩) 16 (cap - q)) ?_ (hK.out _ _ (World.grownBy.refl _ _) rfl)
    clear hG hK K dep up val ev out
    generalize a.eval = ρ at *
    (simp [execOp, go_sem, *]; done)
  · refine Inv.duty_plain rfl rfl (fun L vs a x hG dep up val ev out K hK => ?_)
    have ec : ∀ v, a.eval (.const v) = v := fun _ => rfl
    have e23 : a.eval (.tmp 23) = .slice (some ⟨b, off, none⟩) q cap := (ev 4 23 (dep 4 (by kernel_rfl)) (by kernel_rfl)).trans (val 4 (dep 4 (by kernel_rfl)))
    refine Inv.wp_value (v := .slice (some ⟨b, off, none⟩) q cap) ?_ (hK.out _ _ (World.grownBy.refl _ _) rfl)
    clear hG hK K dep up val ev out
    generalize a.eval = ρ at *
    (simp [execOp, go_sem, *]; done)
  · refine Inv.duty_plain rfl rfl (fun L vs a x hG dep up val ev out K hK => ?_)
    have ec : ∀ v, a.eval (.const v) = v := fun _ => rfl
    have e28 : a.eval (.tmp 28) = .slice (some ⟨b, off + q, none⟩) 16 (cap - q) := (ev 9 28 (dep 9 (by kernel_rfl)) (by kernel_rfl)).trans (val 9 (dep 9 (by kernel_rfl)))
    refine Inv.wp_value (v := .slice (some ⟨b, off + q, none⟩) 16 (cap - q)) ?_ (hK.out _ _ (World.grownBy.refl _ _) rfl)
    clear hG hK K dep up val ev out
    generalize a.eval = ρ at *
    (simp [execOp, go_sem, *]; done)
  intro vs w3 hG hv
  have v10 : vs 10 = .slice (some ⟨b, off, none⟩) q cap := hv 10 (by omega)
  have v11 : vs 11 = .slice (some ⟨b, off + q, none⟩) 16 (cap - q) := hv 11 (by omega)
  have K3 := Lib.hid hG.1
  have G3 := Lib.hid hG.2
  clear hG hv
  simp only [Inv.putAll, Act.put, List.setIfInBounds_toArray, List.set_cons_zero, List.set_cons_succ, Nat.zero_add, Nat.reduceAdd]
  rw [v10, v11]
  clear v10 v11
  generalize vs 0 = y0, vs 1 = y1, vs 2 = y2, vs 3 = y3, vs 4 = y4, vs 5 = y5, vs 6 = y6, vs 7 = y7, vs 8 = y8, vs 9 = y9
  clear vs
  by_cases hts : to = S
  · have HEQ := Lib.hid (show decide (to = S) = true by simp [hts])
    have HO2 := Lib.hid (show openT key u box = some (turnS key u k (ah.drop 8)) by rw [HO.out, if_pos hts])
    clear hts
    go_wp2_with (first
      | (refine wpList_loadC (off := 0) (p := bcells key) aggKy rfl (.tmp 3) rfl K3.out (take_all LK.out) (by rw [LK.out]; omega) (by first | rfl | go_simp) ?_)
      | (go_at_call 45; refine (sumOf_any key u _ ah q cap _ (HT.out.grown G3.out (fun e => by cases e)) HK.out HAL.out (RA.out.keptS G3.out) (by have := HQQ.out; omega)).mono ?_; rintro e w4 ⟨rfl, g4⟩; rw [HSS.out]; have K4 := Lib.hid (K3.out.kept g4); have G4 := Lib.hid (grown_trans' G3.out g4); clear g4)
      | refine wpList_allocC zeroS_run rfl rfl ?_
      | (refine wpList_storeC (off := 0) (p := bcells S) aggS16.hi rfl (.tmp 10) (.tmp 32) rfl (.agg (bcells S).toArray) rfl (bcells_one _) (CB.new w4 22 (bcells (zeros 16))) (by rw [bcells_length, HSL.out]) (by rw [L16.out]; omega) (by first | rfl | go_simp) (by first | rfl | go_simp) ?_; intro w5 h5 g5; rw [over_all _ _ (Nat.le_of_eq (by rw [L16.out, bcells_length, HSL.out]))] at h5; have G45 := Lib.hid (none_new (grown_alloc w4 (.cells (bcells (zeros 16)).toArray 22) none) g5 (Nat.le_refl _)); have S5 := Lib.hid h5; have K5 := Lib.hid (K4.out.kept G45.out); have G5 := Lib.hid (grown_trans' G4.out G45.out); clear h5 g5)
      | (go_at_call 49; refine (equal_any 16 (cap - q) 16 16 _ _ to S _ HTL.out (by omega) (RT.out.keptS G5.out) HSL.out (by omega) (RB.of_CB S5.out (by rw [HSL.out]; decide) HSL.out)).mono ?_; rintro e w6 ⟨rfl, g6⟩; rw [HEQ.out]; have K6 := Lib.hid (K5.out.kept g6); have G6 := Lib.hid (grown_trans' G5.out g6); clear g6))
    refine Inv.region_made (n := 10) (ds := [some 37, some 38, some 39, some 40, some 41, some 42, some 43, some 44, some 6, some 7]) (fun x => CB x w.heap.size 23 (bcells key) ∧ w.grownBy x none) (SepF7 w.heap.size b off q m cap k key u (ah.drop 8)) (by kernel_rfl) (by kernel_rfl) rfl (by kernel_rfl) (fun x y hg hG => ⟨hG.1.kept hg, grown_trans' hG.2 hg⟩) (fun j v x y hg _ hF => SepF7.kept j v x y hg hF) ⟨K6.out.drew, grown_drew G6.out⟩ ⟨⟨⟨⟨⟨⟨⟨⟨⟨⟨trivial, ?_⟩, ?_⟩, ?_⟩, ?_⟩, ?_⟩, ?_⟩, ?_⟩, ?_⟩, ?_⟩, ?_⟩ ?_
    · refine Inv.duty_plain rfl rfl (fun L vs a x hG dep up val ev out K hK => ?_)
      have ec : ∀ v, a.eval (.const v) = v := fun _ => rfl
      have e8 : a.eval (.tmp 8) = .slice (some ⟨b, off, none⟩) q cap := (out 8 (by kernel_rfl)).trans rfl
      refine Inv.wp_value (v := .slice (some ⟨b, off, none⟩) q cap) ?_ (hK.out _ _ (World.grownBy.refl _ _) rfl)
      clear hG hK K dep up val ev out
      generalize a.eval = ρ at *
      (simp [execOp, go_sem, *]; done)
    · refine Inv.duty_plain rfl rfl (fun L vs a x hG dep up val ev out K hK => ?_)
      have ec : ∀ v, a.eval (.const v) = v := fun _ => rfl
      have e37 : a.eval (.tmp 37) = .slice (some ⟨b, off, none⟩) q cap := (ev 0 37 (dep 0 (by kernel_rfl)) (by kernel_rfl)).trans (val 0 (dep 0 (by kernel_rfl)))
      refine Inv.wp_value (v := .slice (some ⟨b, off, none⟩) 8 cap) ?_ (hK.out _ _ (World.grownBy.refl _ _) rfl)
      clear hG hK K dep up val ev out
      generalize a.eval = ρ at *
      (simp [execOp, go_sem, *]; done)
    · refine Inv.duty_plain rfl rfl (fun L vs a x hG dep up val ev out K hK => ?_)
      have ef : ∀ f, a.eval (.func f) = .func (.func f) #[] #[] := fun _ => rfl
      have e38 : a.eval (.tmp 38) = .slice (some ⟨b, off, none⟩) 8 cap := (ev 1 38 (dep 1 (by kernel_rfl)) (by kernel_rfl)).trans (val 1 (dep 1 (by kernel_rfl)))
      refine Inv.wp_call (by clear hG hK K dep up val ev out; generalize a.eval = ρ at *; (simp [execOp, go_sem, *]; done)) ((narrow_any _ (ah.take 8) cap x H8L.out (R8.out.keptS hG.2)).mono ?_)
      rintro e w' ⟨rfl, rfl⟩
      exact ⟨_, rfl, hK.out _ _ (World.grownBy.refl _ _) (by rw [HKK.out]; rfl)⟩
    · refine Inv.duty_plain rfl rfl (fun L vs a x hG dep up val ev out K hK => ?_)
      have e3 : a.eval (.tmp 3) = .pointer (some ⟨w.heap.size, 0, none⟩) := (out 3 (by kernel_rfl)).trans rfl
      exact wp_loadC aggKy (.tmp 3) rfl hG.1 (take_all LK.out) (by rw [LK.out]; omega) e3 (hK.out _ _ (World.grownBy.refl _ _) rfl)
    · refine Inv.duty_plain rfl rfl (fun L vs a x hG dep up val ev out K hK => ?_)
      have ec : ∀ v, a.eval (.const v) = v := fun _ => rfl
      have e1 : a.eval (.tmp 1) = .int .i64 u := (out 1 (by kernel_rfl)).trans rfl
      refine Inv.wp_value (v := .int .i64 u) ?_ (hK.out _ _ (World.grownBy.refl _ _) rfl)
      clear hG hK K dep up val ev out
      generalize a.eval = ρ at *
      (simp [execOp, go_sem, *]; done)
    · refine Inv.duty_plain rfl rfl (fun L vs a x hG dep up val ev out K hK => ?_)
      have ec : ∀ v, a.eval (.const v) = v := fun _ => rfl
      have e8 : a.eval (.tmp 8) = .slice (some ⟨b, off, none⟩) q cap := (out 8 (by kernel_rfl)).trans rfl
      refine Inv.wp_value (v := .slice (some ⟨b, off, none⟩) q cap) ?_ (hK.out _ _ (World.grownBy.refl _ _) rfl)
      clear hG hK K dep up val ev out
      generalize a.eval = ρ at *
      (simp [execOp, go_sem, *]; done)
    · refine Inv.duty_plain rfl rfl (fun L vs a x hG dep up val ev out K hK => ?_)
      have ec : ∀ v, a.eval (.const v) = v := fun _ => rfl
      have e42 : a.eval (.tmp 42) = .slice (some ⟨b, off, none⟩) q cap := (ev 5 42 (dep 5 (by kernel_rfl)) (by kernel_rfl)).trans (val 5 (dep 5 (by kernel_rfl)))
      refine Inv.wp_value (v := .slice (some ⟨b, off + 8, none⟩) m (cap - 8)) ?_ (hK.out _ _ (World.grownBy.refl _ _) rfl)
      clear hG hK K dep up val ev out
      generalize a.eval = ρ at *
      (simp [execOp, go_sem, *]; done)
    · refine Inv.duty_plain rfl rfl (fun L vs a x hG dep up val ev out K hK => ?_)
      have ef : ∀ f, a.eval (.func f) = .func (.func f) #[] #[] := fun _ => rfl
      have e39 : a.eval (.tmp 39) = .int .u64 k := (ev 2 39 (dep 2 (by kernel_rfl)) (by kernel_rfl)).trans (val 2 (dep 2 (by kernel_rfl)))
      have e40 : a.eval (.tmp 40) = .agg (bcells key).toArray := (ev 3 40 (dep 3 (by kernel_rfl)) (by kernel_rfl)).trans (val 3 (dep 3 (by kernel_rfl)))
      have e41 : a.eval (.tmp 41) = .int .i64 u := (ev 4 41 (dep 4 (by kernel_rfl)) (by kernel_rfl)).trans (val 4 (dep 4 (by kernel_rfl)))
      have e43 : a.eval (.tmp 43) = .slice (some ⟨b, off + 8, none⟩) m (cap - 8) := (ev 6 43 (dep 6 (by kernel_rfl)) (by kernel_rfl)).trans (val 6 (dep 6 (by kernel_rfl)))
      refine Inv.wp_call (by clear hG hK K dep up val ev out; generalize a.eval = ρ at *; (simp [execOp, go_sem, *]; done)) ((sturn_any k key u _ (ah.drop 8) m (cap - 8) x (HT.out.grown hG.2 (fun e => by cases e)) HK.out HML.out (RM.out.keptS hG.2) (by have := HMM.out; omega)).mono ?_)
      rintro e w' ⟨v, rfl, o, g⟩
      exact ⟨_, rfl, hK.out _ _ g (o.base_ hG.2.size)⟩
    · refine Inv.duty_plain rfl rfl (fun L vs a x hG dep up val ev out K hK => ?_)
      have f44 : OwnB x w.heap.size 5 (vs 7) (turnS key u k (ah.drop 8)) := val 7 (dep 7 (by kernel_rfl))
      have e44 : a.eval (.tmp 44) = vs 7 := ev 7 44 (dep 7 (by kernel_rfl)) (by kernel_rfl)
      refine Inv.wp_value (v := vs 7) ?_ (hK.out _ _ (World.grownBy.refl _ _) f44)
      clear hG hK K dep up val ev out
      generalize a.eval = ρ at *
      (simp [execOp, go_sem, *]; done)
    · refine Inv.duty_plain rfl rfl (fun L vs a x hG dep up val ev out K hK => ?_)
      have ec : ∀ v, a.eval (.const v) = v := fun _ => rfl
      refine Inv.wp_value (v := .int .i64 0) ?_ (hK.out _ _ (World.grownBy.refl _ _) rfl)
      clear hG hK K dep up val ev out
      generalize a.eval = ρ at *
      (simp [execOp, go_sem, *]; done)
    intro vs w7 hG hv
    have o8 : OwnB w7 w.heap.size 5 (vs 8) (turnS key u k (ah.drop 8)) := hv 8 (by omega)
    have v9 : vs 9 = .int .i64 0 := hv 9 (by omega)
    have G7 := Lib.hid hG.2
    obtain ⟨A8, c8, hv8, -, -⟩ := o8.shape
    rw [hv8] at o8
    have O8 := Lib.hid o8
    clear hG hv o8
    simp only [Inv.putAll, Act.put, List.setIfInBounds_toArray, List.set_cons_zero, List.set_cons_succ, Nat.zero_add, Nat.reduceAdd]
    rw [hv8, v9]
    clear hv8 v9
    go_wp2
    go_ret2
    refine ⟨G7.out, ?_⟩
    rw [HO2.out]
    exact ⟨A8, c8, rfl, O8.out⟩
  · have HEQ := Lib.hid (show decide (to = S) = false by simp [hts])
    have HO2 := Lib.hid (show openT key u box = none by rw [HO.out, if_neg hts])
    clear hts
    go_wp2_with (first
      | (refine wpList_loadC (off := 0) (p := bcells key) aggKy rfl (.tmp 3) rfl K3.out (take_all LK.out) (by rw [LK.out]; omega) (by first | rfl | go_simp) ?_)
      | (go_at_call 45; refine (sumOf_any key u _ ah q cap _ (HT.out.grown G3.out (fun e => by cases e)) HK.out HAL.out (RA.out.keptS G3.out) (by have := HQQ.out; omega)).mono ?_; rintro e w4 ⟨rfl, g4⟩; rw [HSS.out]; have K4 := Lib.hid (K3.out.kept g4); have G4 := Lib.hid (grown_trans' G3.out g4); clear g4)
      | refine wpList_allocC zeroS_run rfl rfl ?_
      | (refine wpList_storeC (off := 0) (p := bcells S) aggS16.hi rfl (.tmp 10) (.tmp 32) rfl (.agg (bcells S).toArray) rfl (bcells_one _) (CB.new w4 22 (bcells (zeros 16))) (by rw [bcells_length, HSL.out]) (by rw [L16.out]; omega) (by first | rfl | go_simp) (by first | rfl | go_simp) ?_; intro w5 h5 g5; rw [over_all _ _ (Nat.le_of_eq (by rw [L16.out, bcells_length, HSL.out]))] at h5; have G45 := Lib.hid (none_new (grown_alloc w4 (.cells (bcells (zeros 16)).toArray 22) none) g5 (Nat.le_refl _)); have S5 := Lib.hid h5; have K5 := Lib.hid (K4.out.kept G45.out); have G5 := Lib.hid (grown_trans' G4.out G45.out); clear h5 g5)
      | (go_at_call 49; refine (equal_any 16 (cap - q) 16 16 _ _ to S _ HTL.out (by omega) (RT.out.keptS G5.out) HSL.out (by omega) (RB.of_CB S5.out (by rw [HSL.out]; decide) HSL.out)).mono ?_; rintro e w6 ⟨rfl, g6⟩; rw [HEQ.out]; have G6 := Lib.hid (grown_trans' G5.out g6); clear g6))
    go_ret2
    exact Opened.no HO2.out G6.out
end Go.Proofs.YtaanhancjmigdaaDoor
