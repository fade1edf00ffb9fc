/- The walks of the document's Write, ReadOf, Take. -/
import Derived.Test.YtajfaplaaafjiaaMxv
import Derived.Test.YtajfaplaaafjiaaFrh
namespace Go.Proofs.Ytajfaplaaafjiaa
open Go.RowKit

def rcWrite (r : Rc) (l : List UInt8) : Rc := { r with wr := r.wr ++ l }
def rcTake (r : Rc) (l : List UInt8) : Rc := { r with cm := r.cm ++ l }

set_option maxRecDepth 10000 in
set_option maxHeartbeats 4000000 in
theorem rwrite_any (w : World) (base n : Nat) (us vs : Nat → Value) (D : Nat → Rc) (C : Nat → Ch) (B : Nat) (h : RX w base n us vs D) (hr : RlA C D) (hl : LimA C) (hB : RbA B D) (hBl : B ≤ 10000000) (i : Int) (_ : I64 i) (A : Option Addr) (l : List UInt8) (m cap : Nat) (hn : l.length = m) (hd : RB w w.heap.size A l cap) (hml : m ≤ 10000) :
    Calls Try.prog 26 #[.pointer (some ⟨n, 0, none⟩), .int .i64 i, .slice A m cap] w fun e w' => e = .returned (.int .i64 (muW C i l).1) ∧ RA w w' base n us vs (muW C i l).2 (B + m) := by
  have hBm : RbA (B + m) D := fun i hi => ⟨by have := (hB i hi).1; omega, by have := (hB i hi).2; omega⟩
  by_cases hb : badC i
  · have hm : muW C i l = (100, C) := by unfold muW; rw [if_pos hb]
    have H := Lib.hid (RA.refl h hr hBm)
    rw [hm]
    unfold badC at hb
    clear h hr hB hBm hm hd hl
    by_cases h0 : i < 0
    · clear hb
      go_enter Try.func26, Try.ntmps26
      go_wp2
      go_ret
      exact ⟨rfl, H.out⟩
    · have h3 : (3 : Int) < i := by omega
      clear hb
      go_enter Try.func26, Try.ntmps26
      go_wp2
      go_ret
      exact ⟨rfl, H.out⟩
  have hi4 : i.toNat < 4 := badC_lt hb
  obtain ⟨j, rfl⟩ : ∃ j : Nat, i = (j : Int) := ⟨i.toNat, by unfold badC at hb; omega⟩
  rw [Int.toNat_natCast] at hi4
  have hm : muW C j l = (writeE (C j) m, upd C j (if writeE (C j) m = 0 then chWrite (C j) l else C j)) := by unfold muW; rw [if_neg hb, Int.toNat_natCast, hn]
  have h0 : ¬ (j : Int) < 0 := by omega
  have h3 : ¬ (3 : Int) < (j : Int) := by omega
  have h4 : (j : Int) < 4 := by omega
  have hrj := hr j hi4
  have c2 := h.at_ hi4 (k := 2) rfl
  rw [hm]
  cases hcl : (D j).cl with
  | true =>
    rw [hcl] at c2
    have e : writeE (C j) m = 102 := by unfold writeE; rw [hrj.cl, hcl]; rfl
    rw [e, if_neg (by decide), upd_self]
    have H := Lib.hid (RA.refl h hr hBm)
    clear h hr hB hBm hm hd hl hrj hcl e hb hi4
    go_enter Try.func26, Try.ntmps26
    go_wp2
    go_ret
    exact ⟨rfl, H.out⟩
  | false =>
  rw [hcl] at c2
  obtain ⟨U, cu, hu, hUr, -⟩ := (h.ou j hi4).shape
  have c0 := h.at_ hi4 (k := 0) rfl
  have c1 := h.at_ hi4 (k := 1) rfl
  rw [Nat.add_zero] at c0
  rw [hu] at c0
  have hwt := hrj.wait
  have hws := (hl j hi4).ws
  have hsl := hrj.sl
  have hBj := (hB j hi4).1
  obtain ⟨wl, hwl⟩ : ∃ x, (D j).wr.length = x := ⟨_, rfl⟩
  obtain ⟨st, hst⟩ : ∃ x, (D j).sent = x := ⟨_, rfl⟩
  rw [hwl] at c0 hwt hsl hBj
  rw [hst] at c1 hwt hsl
  have hw1 : IntKind.i64.wrap ((wl : Int) - (st : Int)) = ((wl - st : Nat) : Int) := by simp [IntKind.wrap, IntKind.bits, IntKind.signed]; omega
  have hw2 : IntKind.i64.wrap (4096 - ((wl - st : Nat) : Int)) = 4096 - ((wl - st : Nat) : Int) := by simp [IntKind.wrap, IntKind.bits, IntKind.signed]; omega
  by_cases hq : 4096 < (C j).waits.length + m
  · have e : writeE (C j) m = 2 := by unfold writeE; rw [hrj.cl, hcl, if_neg (by decide), if_pos hq]
    rw [e, if_neg (by decide), upd_self]
    have hki : decide (4096 - ((wl - st : Nat) : Int) < (m : Int)) = true := decide_eq_true (by omega)
    have H := Lib.hid (RA.refl h hr hBm)
    clear h hr hB hBm hm hd hl hrj hcl e hb hi4 hq hu hUr hwl hst hwt hws hsl
    generalize wl - st = q at *
    go_enter Try.func26, Try.ntmps26
    go_wp2
    go_quiet (fail)
    go_wp2
    go_ret
    obtain ⟨a, b, c, d, f, g, k⟩ := H.out
    exact ⟨rfl, a, b, c, d.made ⟨rfl, rfl, rfl, Nat.le_refl _, fun _ _ _ => rfl⟩, f, g, k.trans (RG.of_made _ _ _ ⟨rfl, rfl, rfl, Nat.le_refl _, fun _ _ _ => rfl⟩)⟩
  · have e : writeE (C j) m = 0 := by unfold writeE; rw [hrj.cl, hcl, if_neg (by decide), if_neg hq]
    rw [e, if_pos rfl]
    have hki : decide (4096 - ((wl - st : Nat) : Int) < (m : Int)) = false := decide_eq_false (by omega)
    have HX := Lib.hid h
    have HR := Lib.hid hr
    have HBB := Lib.hid hBm
    have HJ := Lib.hid hi4
    have HU := Lib.hid hUr
    have HD := Lib.hid hd
    have WL := Lib.hid hwl
    have HN := Lib.hid hn
    have BJ := Lib.hid (show wl ≤ 10000000 ∧ wl ≤ B by omega)
    have RLK := Lib.hid (show Rl (chWrite (C j) l) (rcWrite (D j) l) from ⟨by show (C j).waits ++ l = ((D j).wr ++ l).drop (D j).sent; rw [List.drop_append_of_le_length hrj.sl, ← hrj.ws], by show (D j).sent ≤ ((D j).wr ++ l).length; rw [List.length_append]; exact Nat.le_trans hrj.sl (Nat.le_add_right _ _), hrj.cr, hrj.cl, hrj.tl, hrj.cm, hrj.rl, hrj.rd, hrj.en⟩)
    clear h hr hB hBm hm hd hl hrj hcl e hb hi4 hq hu hUr hwl hst hwt hws hsl
    generalize wl - st = q at *
    go_enter Try.func26, Try.ntmps26
    go_wp2
    go_quiet (fail)
    have c0 : (w.drewN nq).cell? ⟨n, j * 9, none⟩ = some (.slice U wl cu) := c0
    have c1 : (w.drewN nq).cell? ⟨n, j * 9 + 1, none⟩ = some (.int .i64 st) := c1
    have c2 : (w.drewN nq).cell? ⟨n, j * 9 + 2, none⟩ = some (.bool false) := c2
    have GN := Lib.hid (show w.grownBy (w.drewN nq) none from ⟨rfl, rfl, rfl, Nat.le_refl _, fun _ _ _ => rfl⟩)
    generalize w.drewN nq = wn at *
    have HX2 := Lib.hid (HX.out.made GN.out)
    have HU2 := Lib.hid (HU.out.below (below_rw GN.out (Nat.le_refl _)))
    have HD2 := Lib.hid (HD.out.below (below_rw GN.out (Nat.le_refl _)))
    have cA0 : (wn.alloc (.cells #[] 5)).cell? ⟨n, j * 9, none⟩ = some (.slice U wl cu) := ((below_rw (grown_alloc wn (.cells #[] 5) none) (Nat.le_refl _)).cell HX2.out.cb.lt).trans c0
    have TK := Lib.hid True.intro
    go_wp2_with (first
      | (at_builtin
         have hx := TK2
         refine wpList_appB byteT rfl (.tmp 43) (.tmp 44) rfl O5.out (HD2.out.below (below_rw G5.out GN.out.size)) (by first | rfl | go_simp) (by rw [HN.out]; first | rfl | go_simp) (by rw [WL.out, HN.out]; have := BJ.out; omega) G5.out.size ?_
         intro v6 w6 o6 g6 _ _
         obtain ⟨A6, c6, hv6, -, -⟩ := o6.shape
         generalize List.length (_ ++ _) = n6 at hv6
         subst hv6
         have O6 := Lib.hid o6
         have G6 := Lib.hid (show wn.grownBy w6 none from (Mod.none (S := fun k => wn.heap.size ≤ k) ((Mod.made G5.out).grown g6 (fun z hz _ => ((O5.out.lt z hz).1))) (fun k hk e => by omega)))
         have X6 := HX2.out.made G6.out
         have f0w := X6.cb.free (j * 9)
         have cw0 := X6.at_ HJ.out (k := 0) rfl
         rw [Nat.add_zero] at cw0
         have PX := Lib.hid (X6.putU HJ.out (O6.out.base_ (Nat.le_trans HX2.out.hb (Nat.le_of_lt HX2.out.cb.lt))) (rcWrite (D j) l) rfl rfl rfl)
         clear o6 g6 TK2 hx)
      | (at_builtin
         have hx := TK
         refine wpList_appB byteT rfl (.tmp 38) (.tmp 42) rfl (OwnB.new0 wn wn.heap.size 5 (Nat.le_refl _)) ((HU2.out.more GN.out.size).alloc (Nat.le_refl _) _) (by first | rfl | go_simp) (by rw [WL.out]; first | rfl | go_simp) (by rw [WL.out]; have := BJ.out; simp; omega) (by simp) ?_
         intro v5 w5 o5 g5 _ _
         rw [List.nil_append] at o5
         obtain ⟨A5, c5, hv5, -, -⟩ := o5.shape
         subst hv5
         have O5 := Lib.hid o5
         have G5 := Lib.hid (show wn.grownBy w5 none from (Mod.none (S := fun k => wn.heap.size ≤ k) ((Mod.made (grown_alloc wn (.cells #[] 5) none)).grown g5 (fun z hz _ => by simp [Value.ownBlock] at hz; omega)) (fun k hk e => by omega)))
         have TK2 := Lib.hid True.intro
         clear o5 g5 TK hx))
    go_ret
    refine ⟨rfl, _, _, upd D j (rcWrite (D j) l), PX.out, HR.out.upd_ RLK.out j, HBB.out.upd_ (r := rcWrite (D j) l) (Nat.le_refl _) ⟨?_, (HBB.out j HJ.out).2⟩ j, ((RG.of_made n us vs (grown_trans' GN.out G6.out)).trans (RG.set n _ _ us vs)).1, fun z hz => ?_⟩
    · show ((D j).wr ++ l).length ≤ B + m
      have := BJ.out.2
      rw [List.length_append, HN.out, WL.out]
      omega
    · rcases rxS_updU hz with e | e
      · exact .inl e
      · exact .inr (Nat.le_trans GN.out.size (O6.out.lt z e).1)

set_option maxRecDepth 10000 in
set_option maxHeartbeats 4000000 in
theorem rread_any (w : World) (base n : Nat) (us vs : Nat → Value) (D : Nat → Rc) (C : Nat → Ch) (B : Nat) (h : RX w base n us vs D) (hr : RlA C D) (hB : RbA B D) (hBl : B ≤ 10000000) (i most : Int) (_ : I64 i) (_ : I64 most) :
    Calls Try.prog 30 #[.pointer (some ⟨n, 0, none⟩), .int .i64 i, .int .i64 most] w fun e w' => ∃ A' c', e = .returned (.slice A' (rdK C i most) c') ∧ OwnB w' w.heap.size 5 (.slice A' (rdK C i most) c') (muR C i most).1 ∧ RA w w' base n us vs (muR C i most).2 B := by
  by_cases hbad : badC i ∨ most ≤ 0
  · have hm : muR C i most = ([], C) := by unfold muR; rw [if_pos hbad]
    have hk : rdK C i most = 0 := by unfold rdK; rw [if_pos hbad]
    rw [hm, hk]
    have H := Lib.hid (RA.made h hr hB (grown_alloc w (.cells #[] 5) none))
    have N := Lib.hid (OwnB.new0 w w.heap.size 5 (Nat.le_refl _))
    clear h hr hB hm hk
    unfold badC at hbad
    by_cases h0 : i < 0
    · clear hbad
      go_enter Try.func30, Try.ntmps30
      go_wp2
      go_ret
      exact ⟨_, _, rfl, N.out, H.out⟩
    by_cases h3 : (3 : Int) < i
    · clear hbad
      go_enter Try.func30, Try.ntmps30
      go_wp2
      go_ret
      exact ⟨_, _, rfl, N.out, H.out⟩
    · have h4 : most ≤ 0 := by omega
      clear hbad
      go_enter Try.func30, Try.ntmps30
      go_wp2
      go_ret
      exact ⟨_, _, rfl, N.out, H.out⟩
  have hb1 : ¬ badC i := fun e => hbad (.inl e)
  have hmo : ¬ most ≤ 0 := fun e => hbad (.inr e)
  have hi4 : i.toNat < 4 := badC_lt hb1
  obtain ⟨j, rfl⟩ : ∃ j : Nat, i = (j : Int) := ⟨i.toNat, by unfold badC at hb1; omega⟩
  obtain ⟨mo, rfl⟩ : ∃ mo : Nat, most = (mo : Int) := ⟨most.toNat, by omega⟩
  rw [Int.toNat_natCast] at hi4
  have h0 : ¬ (j : Int) < 0 := by omega
  have h3 : ¬ (3 : Int) < (j : Int) := by omega
  have h4 : (j : Int) < 4 := by omega
  have hrj := hr j hi4
  obtain ⟨V, cv, hv, hVr, -⟩ := (h.ov j hi4).shape
  have c4 := h.at_ hi4 (k := 4) rfl
  have c5 := h.at_ hi4 (k := 5) rfl
  rw [hv] at c4
  have hrl := hrj.rl
  have hBj := (hB j hi4).2
  obtain ⟨rd, hrd⟩ : ∃ x, (D j).rd = x := ⟨_, rfl⟩
  obtain ⟨ln, hln⟩ : ∃ x, (D j).cm.length = x := ⟨_, rfl⟩
  have hcam := hrj.cam
  rw [hrd] at c5 hrl hcam
  rw [hln] at c4 hrl hBj hcam
  obtain ⟨kk, hkk⟩ : ∃ x, min mo (ln - rd) = x := ⟨_, rfl⟩
  have hk : rdK C j mo = kk := by unfold rdK; rw [if_neg hbad, Int.toNat_natCast, Int.toNat_natCast, hcam, hkk]
  have hm : muR C j mo = (((D j).cm.drop rd).take kk, upd C j (chGive (C j) kk)) := by
    unfold muR
    rw [if_neg hbad, hk, Int.toNat_natCast, hrj.cm, hrd]
  rw [hm, hk]
  obtain ⟨V', hV'⟩ : ∃ x, (if cv = rd then V else V.map (·.add rd)) = x := ⟨_, rfl⟩
  have hrb : RB w w.heap.size V' (((D j).cm.drop rd).take kk) (cv - rd) := by
    have := (hVr.cut (k := rd) (by rw [hln]; exact hrl)).head kk
    rwa [hV'] at this
  have KL := Lib.hid (show (((D j).cm.drop rd).take kk).length = kk by rw [List.length_take, List.length_drop, hln]; omega)
  have hcap : ln ≤ cv := by have := hVr.1; rwa [hln] at this
  have HSL := Lib.hid (fun wx => show (Instr.sliceAt 22 (.slice V ln cv) (some (.int .i64 (rd : Int))) (some (.int .i64 ((rd + kk : Nat) : Int))) none).run Try.prog wx = .ok (.slice V' kk (cv - rd)) wx by
    have e := run_cutB (l := rd) (h := rd + kk) (len := ln) (cap := cv) (a := V) rfl rfl (by omega) (by omega) wx
    rw [hV', show rd + kk - rd = kk by omega] at e
    exact e)
  have RLK := Lib.hid (show Rl (chGive (C j) kk) { D j with rd := rd + kk } from ⟨hrj.ws, hrj.sl, hrj.cr, hrj.cl, hrj.tl, by show (C j).came.drop kk = (D j).cm.drop (rd + kk); rw [hrj.cm, hrd, List.drop_drop], by show rd + kk ≤ _; rw [hln]; omega, by show (C j).read + kk + (D j).sd = rd + kk; have := hrj.rd; rw [hrd] at this; omega, hrj.en⟩)
  have BND := Lib.hid (show kk ≤ 10000000 by omega)
  have HX := Lib.hid h
  have HR := Lib.hid hr
  have HBB := Lib.hid hB
  have HJ := Lib.hid hi4
  have HNL := Lib.hid (show n < w.heap.size from h.cb.lt)
  have RBK := Lib.hid hrb
  have RDE := Lib.hid hrd
  have HWK := Lib.hid (show IntKind.i64.wrap ((rd : Int) + (kk : Int)) = ((rd + kk : Nat) : Int) by simp [IntKind.wrap, IntKind.bits, IntKind.signed]; omega)
  have hwk := HWK.out
  have hw1 : IntKind.i64.wrap ((ln : Int) - (rd : Int)) = ((ln - rd : Nat) : Int) := by simp [IntKind.wrap, IntKind.bits, IntKind.signed]; omega
  by_cases hlt : mo < ln - rd
  · have hki : (mo : Int) < ((ln - rd : Nat) : Int) := by omega
    obtain rfl : kk = mo := by omega
    clear h hr hB hbad hb1 hi4 hrj hv hVr hln hrd hkk hk hm hV' hrb hlt hcam
    generalize ln - rd = q at *
    go_enter Try.func30, Try.ntmps30
    go_wp2
    go_quiet (fail)
    go_wp2_with fail
    obtain ⟨wd, hwd⟩ : ∃ x, (w.drewN nq).drew = x := ⟨_, rfl⟩
    have WD := Lib.hid (show Below w.heap.size w wd by rw [← hwd]; exact ⟨rfl, rfl, rfl, Nat.le_refl _, fun _ _ => rfl⟩)
    have SZ := Lib.hid (show w.heap.size ≤ wd.heap.size by rw [← hwd]; exact Nat.le_refl _)
    refine helds_begin (fun x => Below w.heap.size w x) (by kernel_rfl) (by rw [hwd]; exact WD.out) (fun hb0 => ?_)
    try rw [hwd] at hb0
    try rw [hwd]
    refine helds_take (i := 1) (d := some 41) (v := ?vro_1) (by assumption) rfl rfl (by kernel_rfl) (fun _ _ _ h => h) ?yro_1 ?_; case yro_1 => (refine Or.inl ⟨rfl, fun wx hS => ?_⟩; go_simp; try with_reducible rfl)
    try simp only [Act.put, List.setIfInBounds_toArray, List.set_cons_zero, List.set_cons_succ]
    refine helds_take (i := 2) (d := some 42) (v := ?vro_2) (by assumption) rfl rfl (by kernel_rfl) (fun _ _ _ h => h) ?yro_2 ?_; case yro_2 => (refine Or.inl ⟨rfl, fun wx hS => ?_⟩; go_simp; try with_reducible rfl)
    try simp only [Act.put, List.setIfInBounds_toArray, List.set_cons_zero, List.set_cons_succ]
    refine helds_take (i := 3) (d := some 43) (v := ?vro_3) (by assumption) rfl rfl (by kernel_rfl) (fun _ _ _ h => h) ?yro_3 ?_; case yro_3 => (refine Or.inl ⟨rfl, fun wx hS => ?_⟩; go_simp; try with_reducible rfl)
    try simp only [Act.put, List.setIfInBounds_toArray, List.set_cons_zero, List.set_cons_succ]
    refine helds_take (i := 4) (d := some 44) (v := _) (by assumption) rfl rfl (by kernel_rfl) (fun _ _ _ h => h) (yields_cell1 (fun w => by kernel_rfl) (.tmp 43) rfl rfl (fun wx hx => (hx.cell HNL.out).trans c4) rfl) ?_
    try simp only [Act.put, List.setIfInBounds_toArray, List.set_cons_zero, List.set_cons_succ]
    refine helds_take (i := 5) (d := some 45) (v := ?vro_5) (by assumption) rfl rfl (by kernel_rfl) (fun _ _ _ h => h) ?yro_5 ?_; case yro_5 => (refine Or.inl ⟨rfl, fun wx hS => ?_⟩; go_simp; try with_reducible rfl)
    try simp only [Act.put, List.setIfInBounds_toArray, List.set_cons_zero, List.set_cons_succ]
    refine helds_take (i := 6) (d := some 46) (v := ?vro_6) (by assumption) rfl rfl (by kernel_rfl) (fun _ _ _ h => h) ?yro_6 ?_; case yro_6 => (refine Or.inl ⟨rfl, fun wx hS => ?_⟩; go_simp; try with_reducible rfl)
    try simp only [Act.put, List.setIfInBounds_toArray, List.set_cons_zero, List.set_cons_succ]
    refine helds_take (i := 7) (d := some 47) (v := ?vro_7) (by assumption) rfl rfl (by kernel_rfl) (fun _ _ _ h => h) ?yro_7 ?_; case yro_7 => (refine Or.inl ⟨rfl, fun wx hS => ?_⟩; go_simp; try with_reducible rfl)
    try simp only [Act.put, List.setIfInBounds_toArray, List.set_cons_zero, List.set_cons_succ]
    refine helds_take (i := 8) (d := some 48) (v := _) (by assumption) rfl rfl (by kernel_rfl) (fun _ _ _ h => h) (yields_cell1 (fun w => by kernel_rfl) (.tmp 47) rfl rfl (fun wx hx => (hx.cell HNL.out).trans c5) rfl) ?_
    try simp only [Act.put, List.setIfInBounds_toArray, List.set_cons_zero, List.set_cons_succ]
    refine helds_take (i := 9) (d := some 49) (v := ?vro_9) (by assumption) rfl rfl (by kernel_rfl) (fun _ _ _ h => h) ?yro_9 ?_; case yro_9 => (refine Or.inl ⟨rfl, fun wx hS => ?_⟩; go_simp; try with_reducible rfl)
    try simp only [Act.put, List.setIfInBounds_toArray, List.set_cons_zero, List.set_cons_succ]
    refine helds_take (i := 10) (d := some 50) (v := ?vro_10) (by assumption) rfl rfl (by kernel_rfl) (fun _ _ _ h => h) ?yro_10 ?_; case yro_10 => (refine Or.inl ⟨rfl, fun wx hS => ?_⟩; go_simp; try with_reducible rfl)
    try simp only [Act.put, List.setIfInBounds_toArray, List.set_cons_zero, List.set_cons_succ]
    refine helds_take (i := 11) (d := some 51) (v := ?vro_11) (by assumption) rfl rfl (by kernel_rfl) (fun _ _ _ h => h) ?yro_11 ?_; case yro_11 => (refine Or.inl ⟨rfl, fun wx hS => ?_⟩; go_simp; try with_reducible rfl)
    try simp only [Act.put, List.setIfInBounds_toArray, List.set_cons_zero, List.set_cons_succ]
    refine helds_take (i := 12) (d := some 52) (v := _) (by assumption) rfl rfl (by kernel_rfl) (fun _ _ _ h => h) (yields_cell1 (fun w => by kernel_rfl) (.tmp 51) rfl rfl (fun wx hx => (hx.cell HNL.out).trans c5) rfl) ?_
    try simp only [Act.put, List.setIfInBounds_toArray, List.set_cons_zero, List.set_cons_succ]
    refine helds_take (i := 13) (d := some 53) (v := ?vro_13) (by assumption) rfl rfl (by kernel_rfl) (fun _ _ _ h => h) ?yro_13 ?_; case yro_13 => (refine Or.inl ⟨rfl, fun wx hS => ?_⟩; go_simp; try with_reducible rfl)
    try simp only [Act.put, List.setIfInBounds_toArray, List.set_cons_zero, List.set_cons_succ]
    refine helds_take (i := 14) (d := some 54) (v := ?vro_14) (by assumption) rfl rfl (by kernel_rfl) (fun _ _ _ h => h) ?yro_14 ?_; case yro_14 => (refine Or.inl ⟨rfl, fun wx hS => ?_⟩; go_simp; try with_reducible rfl)
    try simp only [Act.put, List.setIfInBounds_toArray, List.set_cons_zero, List.set_cons_succ]
    refine helds_take (i := 15) (d := some 55) (v := _) (by assumption) rfl rfl (by kernel_rfl) (fun _ _ _ h => h) (yields_sliceS (v := .slice V' kk (cv - rd)) (.tmp 44) (.tmp 48) (.tmp 54) rfl rfl rfl rfl (by first | rfl | (show Value.int .i64 (IntKind.i64.wrap _) = _; rw [HWK.out])) HSL.out) ?_
    try simp only [Act.put, List.setIfInBounds_toArray, List.set_cons_zero, List.set_cons_succ]
    refine helds_one (i := 0) rfl (by kernel_rfl) rfl (fun K hK => ?_)
    refine wp_lit0D (d := some 40) (e := 5) rfl rfl Try.underlying22 byteInfo ?_
    have hb5 : Below w.heap.size w (wd.alloc (.cells #[] 5)) := WD.out.alloc SZ.out _
    have N5 := Lib.hid (OwnB.new0 wd w.heap.size 5 SZ.out)
    refine hK.out _ _ (by assumption) (fun _ => ?_)
    clear hK K
    try simp only [Act.put, List.setIfInBounds_toArray, List.set_cons_zero, List.set_cons_succ]
    refine helds_one (i := 16) rfl (by kernel_rfl) rfl (fun K hK => ?_)
    refine wp_appB (d := some 56) byteT rfl (.tmp 40) (.tmp 55) rfl N5.out (RBK.out.below hb5) rfl (by rw [KL.out]; rfl) (by rw [KL.out]; have := BND.out; simp; omega) (Nat.le_trans SZ.out (Nat.le_of_lt (by rw [World.size_alloc]; exact Nat.lt_succ_self _))) ?_
    intro v6 w6 hown6 hg6 hat6
    obtain ⟨A6, c6, hv6, -, -⟩ := hown6.shape
    rw [List.nil_append, KL.out] at hv6
    subst hv6
    rw [List.nil_append] at hown6
    have hb6 : Below w.heap.size w w6 := hb5.grown hg6 (Nat.le_trans SZ.out (Nat.le_of_lt (by rw [World.size_alloc]; exact Nat.lt_succ_self _))) (fun k hk => by have := (N5.out.lt k hk).1; omega)
    have O6 := Lib.hid hown6
    have G6 := Lib.hid (none_of_below hb6 (Nat.le_refl _))
    have X6 := HX.out.made G6.out
    have c5w : w6.cell? ⟨n, j * 9 + 5, none⟩ = some (.int .i64 rd) := by have := X6.at_ HJ.out (k := 5) rfl; rwa [RDE.out] at this
    have f5w := X6.cb.free (j * 9 + 5)
    have PX := Lib.hid (RA.put X6 HR.out HBB.out HJ.out 5 (.int .i64 ((rd + kk : Nat) : Int)) { D j with rd := rd + kk } (chGive (C j) kk) (by omega) rfl rfl rfl (RLK.out))
    have O7 := Lib.hid (OwnB.mod O6.out (Mod.of_grown (grownC_set w6 n (j * 9 + 5) (.int .i64 ((rd + kk : Nat) : Int)))) (fun g hu e => OwnB.ne_cells O6.out X6.cb (by decide) (by rw [hu, ← e])))
    clear hown6 hg6 hat6
    refine hK.out _ _ (by assumption) (fun _ => ?_)
    clear hK K
    try simp only [Act.put, List.setIfInBounds_toArray, List.set_cons_zero, List.set_cons_succ]
    refine helds_take (i := 17) (d := some 9) (v := ?vro_16) (by assumption) rfl rfl (by kernel_rfl) (fun _ _ _ h => h) ?yro_16 ?_; case yro_16 => (refine Or.inl ⟨rfl, fun wx hS => ?_⟩; go_simp; try with_reducible rfl)
    try simp only [Act.put, List.setIfInBounds_toArray, List.set_cons_zero, List.set_cons_succ]
    refine held_end (by kernel_rfl) ?_ _
    clear c4 c5 hwd
    generalize ((rd + kk : Nat) : Int) = rk at *
    go_wp2
    go_ret
    exact ⟨_, _, rfl, O7.out, by obtain ⟨a, b, c, d, e, f, g⟩ := PX.out; exact ⟨a, b, c, d, e, f, (RG.of_made n us vs G6.out).trans g⟩⟩
  · have hki : ¬ (mo : Int) < ((ln - rd : Nat) : Int) := by omega
    obtain rfl : kk = ln - rd := by omega
    clear h hr hB hbad hb1 hi4 hrj hv hVr hln hrd hkk hk hm hV' hrb hlt hcam
    generalize ln - rd = kk at *
    go_enter Try.func30, Try.ntmps30
    go_wp2
    go_quiet (fail)
    go_wp2_with fail
    obtain ⟨wd, hwd⟩ : ∃ x, (w.drewN nq).drew = x := ⟨_, rfl⟩
    have WD := Lib.hid (show Below w.heap.size w wd by rw [← hwd]; exact ⟨rfl, rfl, rfl, Nat.le_refl _, fun _ _ => rfl⟩)
    have SZ := Lib.hid (show w.heap.size ≤ wd.heap.size by rw [← hwd]; exact Nat.le_refl _)
    refine helds_begin (fun x => Below w.heap.size w x) (by kernel_rfl) (by rw [hwd]; exact WD.out) (fun hb0 => ?_)
    try rw [hwd] at hb0
    try rw [hwd]
    refine helds_take (i := 1) (d := some 41) (v := ?vrp_1) (by assumption) rfl rfl (by kernel_rfl) (fun _ _ _ h => h) ?yrp_1 ?_; case yrp_1 => (refine Or.inl ⟨rfl, fun wx hS => ?_⟩; go_simp; try with_reducible rfl)
    try simp only [Act.put, List.setIfInBounds_toArray, List.set_cons_zero, List.set_cons_succ]
    refine helds_take (i := 2) (d := some 42) (v := ?vrp_2) (by assumption) rfl rfl (by kernel_rfl) (fun _ _ _ h => h) ?yrp_2 ?_; case yrp_2 => (refine Or.inl ⟨rfl, fun wx hS => ?_⟩; go_simp; try with_reducible rfl)
    try simp only [Act.put, List.setIfInBounds_toArray, List.set_cons_zero, List.set_cons_succ]
    refine helds_take (i := 3) (d := some 43) (v := ?vrp_3) (by assumption) rfl rfl (by kernel_rfl) (fun _ _ _ h => h) ?yrp_3 ?_; case yrp_3 => (refine Or.inl ⟨rfl, fun wx hS => ?_⟩; go_simp; try with_reducible rfl)
    try simp only [Act.put, List.setIfInBounds_toArray, List.set_cons_zero, List.set_cons_succ]
    refine helds_take (i := 4) (d := some 44) (v := _) (by assumption) rfl rfl (by kernel_rfl) (fun _ _ _ h => h) (yields_cell1 (fun w => by kernel_rfl) (.tmp 43) rfl rfl (fun wx hx => (hx.cell HNL.out).trans c4) rfl) ?_
    try simp only [Act.put, List.setIfInBounds_toArray, List.set_cons_zero, List.set_cons_succ]
    refine helds_take (i := 5) (d := some 45) (v := ?vrp_5) (by assumption) rfl rfl (by kernel_rfl) (fun _ _ _ h => h) ?yrp_5 ?_; case yrp_5 => (refine Or.inl ⟨rfl, fun wx hS => ?_⟩; go_simp; try with_reducible rfl)
    try simp only [Act.put, List.setIfInBounds_toArray, List.set_cons_zero, List.set_cons_succ]
    refine helds_take (i := 6) (d := some 46) (v := ?vrp_6) (by assumption) rfl rfl (by kernel_rfl) (fun _ _ _ h => h) ?yrp_6 ?_; case yrp_6 => (refine Or.inl ⟨rfl, fun wx hS => ?_⟩; go_simp; try with_reducible rfl)
    try simp only [Act.put, List.setIfInBounds_toArray, List.set_cons_zero, List.set_cons_succ]
    refine helds_take (i := 7) (d := some 47) (v := ?vrp_7) (by assumption) rfl rfl (by kernel_rfl) (fun _ _ _ h => h) ?yrp_7 ?_; case yrp_7 => (refine Or.inl ⟨rfl, fun wx hS => ?_⟩; go_simp; try with_reducible rfl)
    try simp only [Act.put, List.setIfInBounds_toArray, List.set_cons_zero, List.set_cons_succ]
    refine helds_take (i := 8) (d := some 48) (v := _) (by assumption) rfl rfl (by kernel_rfl) (fun _ _ _ h => h) (yields_cell1 (fun w => by kernel_rfl) (.tmp 47) rfl rfl (fun wx hx => (hx.cell HNL.out).trans c5) rfl) ?_
    try simp only [Act.put, List.setIfInBounds_toArray, List.set_cons_zero, List.set_cons_succ]
    refine helds_take (i := 9) (d := some 49) (v := ?vrp_9) (by assumption) rfl rfl (by kernel_rfl) (fun _ _ _ h => h) ?yrp_9 ?_; case yrp_9 => (refine Or.inl ⟨rfl, fun wx hS => ?_⟩; go_simp; try with_reducible rfl)
    try simp only [Act.put, List.setIfInBounds_toArray, List.set_cons_zero, List.set_cons_succ]
    refine helds_take (i := 10) (d := some 50) (v := ?vrp_10) (by assumption) rfl rfl (by kernel_rfl) (fun _ _ _ h => h) ?yrp_10 ?_; case yrp_10 => (refine Or.inl ⟨rfl, fun wx hS => ?_⟩; go_simp; try with_reducible rfl)
    try simp only [Act.put, List.setIfInBounds_toArray, List.set_cons_zero, List.set_cons_succ]
    refine helds_take (i := 11) (d := some 51) (v := ?vrp_11) (by assumption) rfl rfl (by kernel_rfl) (fun _ _ _ h => h) ?yrp_11 ?_; case yrp_11 => (refine Or.inl ⟨rfl, fun wx hS => ?_⟩; go_simp; try with_reducible rfl)
    try simp only [Act.put, List.setIfInBounds_toArray, List.set_cons_zero, List.set_cons_succ]
    refine helds_take (i := 12) (d := some 52) (v := _) (by assumption) rfl rfl (by kernel_rfl) (fun _ _ _ h => h) (yields_cell1 (fun w => by kernel_rfl) (.tmp 51) rfl rfl (fun wx hx => (hx.cell HNL.out).trans c5) rfl) ?_
    try simp only [Act.put, List.setIfInBounds_toArray, List.set_cons_zero, List.set_cons_succ]
    refine helds_take (i := 13) (d := some 53) (v := ?vrp_13) (by assumption) rfl rfl (by kernel_rfl) (fun _ _ _ h => h) ?yrp_13 ?_; case yrp_13 => (refine Or.inl ⟨rfl, fun wx hS => ?_⟩; go_simp; try with_reducible rfl)
    try simp only [Act.put, List.setIfInBounds_toArray, List.set_cons_zero, List.set_cons_succ]
    refine helds_take (i := 14) (d := some 54) (v := ?vrp_14) (by assumption) rfl rfl (by kernel_rfl) (fun _ _ _ h => h) ?yrp_14 ?_; case yrp_14 => (refine Or.inl ⟨rfl, fun wx hS => ?_⟩; go_simp; try with_reducible rfl)
    try simp only [Act.put, List.setIfInBounds_toArray, List.set_cons_zero, List.set_cons_succ]
    refine helds_take (i := 15) (d := some 55) (v := _) (by assumption) rfl rfl (by kernel_rfl) (fun _ _ _ h => h) (yields_sliceS (v := .slice V' kk (cv - rd)) (.tmp 44) (.tmp 48) (.tmp 54) rfl rfl rfl rfl (by first | rfl | (show Value.int .i64 (IntKind.i64.wrap _) = _; rw [HWK.out])) HSL.out) ?_
    try simp only [Act.put, List.setIfInBounds_toArray, List.set_cons_zero, List.set_cons_succ]
    refine helds_one (i := 0) rfl (by kernel_rfl) rfl (fun K hK => ?_)
    refine wp_lit0D (d := some 40) (e := 5) rfl rfl Try.underlying22 byteInfo ?_
    have hb5 : Below w.heap.size w (wd.alloc (.cells #[] 5)) := WD.out.alloc SZ.out _
    have N5 := Lib.hid (OwnB.new0 wd w.heap.size 5 SZ.out)
    refine hK.out _ _ (by assumption) (fun _ => ?_)
    clear hK K
    try simp only [Act.put, List.setIfInBounds_toArray, List.set_cons_zero, List.set_cons_succ]
    refine helds_one (i := 16) rfl (by kernel_rfl) rfl (fun K hK => ?_)
    refine wp_appB (d := some 56) byteT rfl (.tmp 40) (.tmp 55) rfl N5.out (RBK.out.below hb5) rfl (by rw [KL.out]; rfl) (by rw [KL.out]; have := BND.out; simp; omega) (Nat.le_trans SZ.out (Nat.le_of_lt (by rw [World.size_alloc]; exact Nat.lt_succ_self _))) ?_
    intro v6 w6 hown6 hg6 hat6
    obtain ⟨A6, c6, hv6, -, -⟩ := hown6.shape
    rw [List.nil_append, KL.out] at hv6
    subst hv6
    rw [List.nil_append] at hown6
    have hb6 : Below w.heap.size w w6 := hb5.grown hg6 (Nat.le_trans SZ.out (Nat.le_of_lt (by rw [World.size_alloc]; exact Nat.lt_succ_self _))) (fun k hk => by have := (N5.out.lt k hk).1; omega)
    have O6 := Lib.hid hown6
    have G6 := Lib.hid (none_of_below hb6 (Nat.le_refl _))
    have X6 := HX.out.made G6.out
    have c5w : w6.cell? ⟨n, j * 9 + 5, none⟩ = some (.int .i64 rd) := by have := X6.at_ HJ.out (k := 5) rfl; rwa [RDE.out] at this
    have f5w := X6.cb.free (j * 9 + 5)
    have PX := Lib.hid (RA.put X6 HR.out HBB.out HJ.out 5 (.int .i64 ((rd + kk : Nat) : Int)) { D j with rd := rd + kk } (chGive (C j) kk) (by omega) rfl rfl rfl (RLK.out))
    have O7 := Lib.hid (OwnB.mod O6.out (Mod.of_grown (grownC_set w6 n (j * 9 + 5) (.int .i64 ((rd + kk : Nat) : Int)))) (fun g hu e => OwnB.ne_cells O6.out X6.cb (by decide) (by rw [hu, ← e])))
    clear hown6 hg6 hat6
    refine hK.out _ _ (by assumption) (fun _ => ?_)
    clear hK K
    try simp only [Act.put, List.setIfInBounds_toArray, List.set_cons_zero, List.set_cons_succ]
    refine helds_take (i := 17) (d := some 9) (v := ?vrp_16) (by assumption) rfl rfl (by kernel_rfl) (fun _ _ _ h => h) ?yrp_16 ?_; case yrp_16 => (refine Or.inl ⟨rfl, fun wx hS => ?_⟩; go_simp; try with_reducible rfl)
    try simp only [Act.put, List.setIfInBounds_toArray, List.set_cons_zero, List.set_cons_succ]
    refine held_end (by kernel_rfl) ?_ _
    clear c4 c5 hwd
    generalize ((rd + kk : Nat) : Int) = rk at *
    go_wp2
    go_ret
    exact ⟨_, _, rfl, O7.out, by obtain ⟨a, b, c, d, e, f, g⟩ := PX.out; exact ⟨a, b, c, d, e, f, (RG.of_made n us vs G6.out).trans g⟩⟩
end Go.Proofs.Ytajfaplaaafjiaa
