/- The walk of MacDerives. -/
import Derived.Test.YtndnmjolcilamaaDoorMdb
import Derived.Test.YtndnmjolcilamaaDoorEqa
import Derived.Test.YtndnmjolcilamaaDoorInv
import Derived.Test.YtndnmjolcilamaaDoorOpA
namespace Go.Proofs.YtndnmjolcilamaaDoor
open Go.RowKit

theorem wp_loadC {P : Program} {w : World} {o : Oper} {a : Act} {K : Act → World → Prop} {Q : Exit → Act → World → Prop} {ty t : TypeId} {n g off : Nat} {cs p : List Value} (hT : AggT P ty n) (x : Operand) (ho : o.op = .load ty x) (h : CB w g t cs) (hp : (cs.drop off).take n = p) (hl : off + n ≤ cs.length) (hx : a.eval x = .pointer (some ⟨g, off, none⟩))
    (hk : K (a.put o.dst (.agg p.toArray)) w) : o.wp P a w K Q := by
  unfold Oper.wp execOp
  simp only [ho, hx, Instr.loadAt, Instr.sureAddr, Sem.run_bind, Sem.run_pure, Result.andThen_ok, run_loadC hT h hp hl]
  exact hk
theorem wp_convV {P : Program} {o : Oper} {a : Act} {w : World} {K : Act → World → Prop} {Q : Exit → Act → World → Prop} {src dst : TypeId} {u v : Value} (x : Operand) (ho : o.op = .convert src dst x) (hx : a.eval x = u) (hr : (convert src dst u).run P w = .ok v w) (hk : K (a.put o.dst v) w) : o.wp P a w K Q := by
  unfold Oper.wp execOp
  simp only [ho, hx, Sem.run_bind, Sem.run_pure, Result.andThen_ok, hr]
  exact hk
theorem wp_eqV {P : Program} {o : Oper} {a : Act} {w : World} {K : Act → World → Prop} {Q : Exit → Act → World → Prop} {ty k : TypeId} {A B : Array Value} {c : Bool} (hgt : P.eqGuardType P.depth ty = false) (x y : Operand) (ho : o.op = .binOp .eql ty x y k) (hx : a.eval x = .agg A) (hy : a.eval y = .agg B) (hE : ∀ w, (binOp .eql ty (.agg A) (.agg B)).run P w = .ok (.bool c) w) (hk : K (a.put o.dst (.bool c)) w) : o.wp P a w K Q := by
  unfold Oper.wp execOp
  simp only [ho, hx, hy, Sem.run_bind, Sem.run_pure, Result.andThen_ok, hE, run_eqGuard_agg w .eql ty x y A B hgt]
  exact hk
/-- The duty of an operation whose guard is met. -/
theorem duty_if {P : Program} {ops : Array Oper} {Q : Exit → Act → World → Prop} {a0 : Act} {T : World → World → Prop} {G : World → Prop} {F : Nat → Value → World → Prop} {i j : Nat} {b : Bool} {d : Tmp} {o : Oper} (ho : ops[i]? = some o) (hg : o.guard = some (j, b)) (hj : Inv.dstOf ops j = some d) (hdep : Inv.afterB ops i j = true) (hb : ∀ v w, F j v w → v = .bool b)
    (h : ∀ (L : Nat → Bool) (vs : Nat → Value) (a : Act) (w : World), G w →
      (∀ e, Inv.afterB ops i e = true → L e = true) → (∀ j e, L j = true → Inv.afterB ops j e = true → L e = true) →
      (∀ j, L j = true → F j (vs j) w) → (∀ j d, L j = true → Inv.dstOf ops j = some d → a.eval (.tmp d) = vs j) → (∀ d, Inv.outB ops d = true → a.eval (.tmp d) = a0.eval (.tmp d)) →
      ∀ K : Act → World → Prop, Shut (∀ v w', T w w' → F i v w' → K (a.put o.dst v) w') → o.wp P a w K Q) : Inv.Duty P ops Q a0 T G F i := by
  intro o' ho' L vs a w h1 h2 h3 h4 h5 h6
  rw [ho] at ho'
  injection ho' with ho'
  subst ho'
  have hL := h2 j hdep
  have h7 := (h5 j d hL hj).trans (hb _ _ (h4 j hL))
  have hd : a.tmps[d]? = some (.bool b) := by
    have h8 : a.tmps.getD d undef = .bool b := h7
    rw [Array.getD_eq_getD_getElem?] at h8
    cases hq : a.tmps[d]? with
    | none => rw [hq] at h8; exact absurd h8 (by simp [undef])
    | some v => rw [hq] at h8; simpa using h8
  have hw : Region.wanted o (yielded ops a.tmps) = true := by
    unfold Inv.dstOf at hj
    simp [Region.wanted, hg, yielded, hj, hd]
  rw [if_pos hw]
  exact h L vs a w h1 h2 h3 h4 h5 h6

def MdF (w : World) (key D PW : List UInt8) (s : ByteArray) (n : Nat) : Nat → Value → World → Prop
  | 0, v, _ => v = .agg (bcells key).toArray
  | 1, v, _ => v = .string s
  | 2, v, _ => v = .int .u64 (n : Int)
  | 3, v, _ => v = .agg (bcells D).toArray
  | 4, v, _ => v = .agg (bcells key).toArray
  | 5, v, _ => v = .string s
  | 6, v, _ => v = .int .u64 (n : Int)
  | 7, v, _ => v = .agg (bcells D).toArray
  | 8, v, _ => v = .bool true
  | 9, v, _ => v = .bool true
  | 10, v, _ => v = .string s
  | 11, v, _ => v = .slice (some ⟨w.heap.size, 0, none⟩) 16 16
  | 12, v, _ => v = .string ⟨key.toArray⟩
  | 13, v, _ => v = .agg (bcells PW).toArray
  | 14, v, _ => v = .string s
  | 15, v, _ => v = .slice (some ⟨w.heap.size, 0, none⟩) 16 16
  | 16, v, _ => v = .string ⟨key.toArray⟩
  | 17, v, _ => v = .agg (bcells PW).toArray
  | 18, v, _ => v = .bool true
  | 19, v, _ => v = .bool true
  | 20, v, _ => v = .bool true
  | _, _, _ => True
theorem MdF.kept {w : World} {key D PW : List UInt8} {s : ByteArray} {n : Nat} : ∀ (j : Nat) (v : Value) (x y : World), MdF w key D PW s n j v x → MdF w key D PW s n j v y
  | 0, _, _, _, h => h
  | 1, _, _, _, h => h
  | 2, _, _, _, h => h
  | 3, _, _, _, h => h
  | 4, _, _, _, h => h
  | 5, _, _, _, h => h
  | 6, _, _, _, h => h
  | 7, _, _, _, h => h
  | 8, _, _, _, h => h
  | 9, _, _, _, h => h
  | 10, _, _, _, h => h
  | 11, _, _, _, h => h
  | 12, _, _, _, h => h
  | 13, _, _, _, h => h
  | 14, _, _, _, h => h
  | 15, _, _, _, h => h
  | 16, _, _, _, h => h
  | 17, _, _, _, h => h
  | 18, _, _, _, h => h
  | 19, _, _, _, h => h
  | 20, _, _, _, h => h
  | _ + 21, _, _, _, _ => by simp [MdF]

set_option maxRecDepth 10000 in
set_option maxHeartbeats 2000000 in
theorem walk_MacDerives (w : World) (hT : TB w) (key : List UInt8) (hk : key.length = 16) (s : ByteArray) (_ : s.size ≤ maxLen) (n0 : Int) (wn : (Lit.int .u64 n0).wf = true) :
    Calls Tryd.prog 3 #[.agg (bcells key).toArray, .string s, .int .u64 n0] w fun e w' => e = .returned (.bool true) ∧ Below w.heap.size w w' := by
  have hwn := bounds_u64 wn
  obtain ⟨n, rfl⟩ := Int.eq_ofNat_of_zero_le (show 0 ≤ n0 by omega)
  have HN := Lib.hid (show n < 18446744073709551616 by omega)
  have HT := Lib.hid hT
  have HK := Lib.hid hk
  obtain ⟨ls, hls⟩ : ∃ l, s.data.toList = l := ⟨_, rfl⟩
  have HS := Lib.hid hls
  have hsz : s.size = ls.length := by rw [← hls]; rfl
  have G0 := Lib.hid (grown_alloc w (.cells (bcells key).toArray 23) none)
  have B0 := Lib.hid (CB.new w 23 (bcells key))
  by_cases hb : 300 < s.size
  · have hbi : (300 : Int) < (s.size : Int) := by omega
    clear hT hk hls hsz hb wn hwn
    go_enter Tryd.func3, Tryd.ntmps3
    go_wp2_with (go_at_call 10; refine (speaks_any _ (HT.out.grown G0.out (fun e => by cases e))).mono ?_; rintro e w1 ⟨rfl, g1⟩; have G1 := Lib.hid (grown_trans' G0.out g1); clear g1)
    go_ret
    exact ⟨rfl, below_of_none G1.out⟩
  · have hbi : ¬ ((300 : Int) < (s.size : Int)) := by omega
    have HLB := Lib.hid (show ls.length < 10000 by omega)
    obtain ⟨D, hD⟩ : ∃ D, deriveOf key ls n = D := ⟨_, rfl⟩
    have HD := Lib.hid hD
    have HDL := Lib.hid (show D.length = 16 by rw [← hD, deriveOf_length])
    obtain ⟨PW, hPW⟩ : ∃ P, passTo ls key 8 = P := ⟨_, rfl⟩
    have HPW := Lib.hid hPW
    have HPL := Lib.hid (show PW.length = 16 by rw [← hPW, passTo_length])
    have HED := Lib.hid (fun W => show (binOp .eql 23 (.agg (bcells D).toArray) (.agg (bcells D).toArray)).run Tryd.prog W = .ok (.bool true) W by rw [run_binEqB (P := Tryd.prog) arrKey sz8 Tryd.underlying5 HDL.out HDL.out W, beq_self_eq_true])
    have HEP := Lib.hid (fun W => show (binOp .eql 23 (.agg (bcells PW).toArray) (.agg (bcells PW).toArray)).run Tryd.prog W = .ok (.bool true) W by rw [run_binEqB (P := Tryd.prog) arrKey sz8 Tryd.underlying5 HPL.out HPL.out W, beq_self_eq_true])
    clear hT hk hls hsz hb wn hwn hD hPW
    go_enter Tryd.func3, Tryd.ntmps3
    go_wp2_with (go_at_call 10; refine (speaks_any _ (HT.out.grown G0.out (fun e => by cases e))).mono ?_; rintro e w1 ⟨rfl, g1⟩; have G1 := Lib.hid (grown_trans' G0.out g1); have B1 := Lib.hid (B0.out.kept g1); clear g1)
    refine Inv.region_made (n := 21) (ds := [some 12, some 13, some 14, some 15, some 16, some 17, some 18, some 19, some 20, some 21, some 22, some 23, some 24, some 25, some 26, some 27, some 28, some 29, some 30, some 31, some 6]) (fun x => CB x w.heap.size 23 (bcells key) ∧ w.grownBy x none) (MdF w key D PW s n) (by kernel_rfl) (by kernel_rfl) rfl (by kernel_rfl) (fun _ _ hg h => ⟨h.1.kept hg, grown_trans' h.2 hg⟩) (fun j v x y _ _ h => MdF.kept j v x y h) ⟨B1.out.drew, grown_drew G1.out⟩ ⟨⟨⟨⟨⟨⟨⟨⟨⟨⟨⟨⟨⟨⟨⟨⟨⟨⟨⟨⟨⟨trivial, ?_⟩, ?_⟩, ?_⟩, ?_⟩, ?_⟩, ?_⟩, ?_⟩, ?_⟩, ?_⟩, ?_⟩, ?_⟩, ?_⟩, ?_⟩, ?_⟩, ?_⟩, ?_⟩, ?_⟩, ?_⟩, ?_⟩, ?_⟩, ?_⟩ ?_
    · refine Inv.duty_plain rfl rfl (fun L vs a x hG dep up val ev out K hK => ?_)
      obtain ⟨hB, hW⟩ := hG
      have e3 : a.eval (.tmp 3) = .pointer (some ⟨w.heap.size, 0, none⟩) := (out 3 (by kernel_rfl)).trans rfl
      exact wp_loadC agg16 (.tmp 3) rfl hB (by rw [List.drop_zero]; exact List.take_of_length_le (by rw [bcells_length, HK.out]; exact Nat.le_refl _)) (by rw [bcells_length, HK.out]; omega) e3 (hK.out _ _ (World.grownBy.refl x _) rfl)
    · refine Inv.duty_plain rfl rfl (fun L vs a x hG dep up val ev out K hK => ?_)
      obtain ⟨hB, hW⟩ := hG
      have e1 : a.eval (.tmp 1) = .string s := (out 1 (by kernel_rfl)).trans rfl
      refine Inv.wp_value (v := .string s) ?_ (hK.out _ _ (World.grownBy.refl x _) rfl)
      clear hK K dep up val ev out
      generalize a.eval = ρ at *
      (simp [execOp, go_sem, *]; done)
    · refine Inv.duty_plain rfl rfl (fun L vs a x hG dep up val ev out K hK => ?_)
      obtain ⟨hB, hW⟩ := hG
      have e2 : a.eval (.tmp 2) = .int .u64 (n : Int) := (out 2 (by kernel_rfl)).trans rfl
      refine Inv.wp_value (v := .int .u64 (n : Int)) ?_ (hK.out _ _ (World.grownBy.refl x _) rfl)
      clear hK K dep up val ev out
      generalize a.eval = ρ at *
      (simp [execOp, go_sem, *]; done)
    · refine Inv.duty_plain rfl rfl (fun L vs a x hG dep up val ev out K hK => ?_)
      obtain ⟨hB, hW⟩ := hG
      have ef : ∀ f, a.eval (.func f) = .func (.func f) #[] #[] := fun _ => rfl
      have L12 := dep 0 (by kernel_rfl)
      have e12 : a.eval (.tmp 12) = .agg (bcells key).toArray := (ev 0 12 L12 (by kernel_rfl)).trans (val 0 L12)
      have L13 := dep 1 (by kernel_rfl)
      have e13 : a.eval (.tmp 13) = .string s := (ev 1 13 L13 (by kernel_rfl)).trans (val 1 L13)
      have L14 := dep 2 (by kernel_rfl)
      have e14 : a.eval (.tmp 14) = .int .u64 (n : Int) := (ev 2 14 L14 (by kernel_rfl)).trans (val 2 L14)
      refine Inv.wp_call (by clear hK K dep up val ev out; generalize a.eval = ρ at *; (simp [execOp, go_sem, *]; done)) ((derive_any key s ls n x (HT.out.grown hW (fun e => by cases e)) HK.out HS.out HLB.out HN.out).mono ?_)
      rintro e w' ⟨rfl, g⟩
      rw [HD.out]
      exact ⟨_, rfl, hK.out _ _ g rfl⟩
    · refine Inv.duty_plain rfl rfl (fun L vs a x hG dep up val ev out K hK => ?_)
      obtain ⟨hB, hW⟩ := hG
      have e3 : a.eval (.tmp 3) = .pointer (some ⟨w.heap.size, 0, none⟩) := (out 3 (by kernel_rfl)).trans rfl
      exact wp_loadC agg16 (.tmp 3) rfl hB (by rw [List.drop_zero]; exact List.take_of_length_le (by rw [bcells_length, HK.out]; exact Nat.le_refl _)) (by rw [bcells_length, HK.out]; omega) e3 (hK.out _ _ (World.grownBy.refl x _) rfl)
    · refine Inv.duty_plain rfl rfl (fun L vs a x hG dep up val ev out K hK => ?_)
      obtain ⟨hB, hW⟩ := hG
      have e1 : a.eval (.tmp 1) = .string s := (out 1 (by kernel_rfl)).trans rfl
      refine Inv.wp_value (v := .string s) ?_ (hK.out _ _ (World.grownBy.refl x _) rfl)
      clear hK K dep up val ev out
      generalize a.eval = ρ at *
      (simp [execOp, go_sem, *]; done)
    · refine Inv.duty_plain rfl rfl (fun L vs a x hG dep up val ev out K hK => ?_)
      obtain ⟨hB, hW⟩ := hG
      have e2 : a.eval (.tmp 2) = .int .u64 (n : Int) := (out 2 (by kernel_rfl)).trans rfl
      refine Inv.wp_value (v := .int .u64 (n : Int)) ?_ (hK.out _ _ (World.grownBy.refl x _) rfl)
      clear hK K dep up val ev out
      generalize a.eval = ρ at *
      (simp [execOp, go_sem, *]; done)
    · refine Inv.duty_plain rfl rfl (fun L vs a x hG dep up val ev out K hK => ?_)
      obtain ⟨hB, hW⟩ := hG
      have ef : ∀ f, a.eval (.func f) = .func (.func f) #[] #[] := fun _ => rfl
      have L16 := dep 4 (by kernel_rfl)
      have e16 : a.eval (.tmp 16) = .agg (bcells key).toArray := (ev 4 16 L16 (by kernel_rfl)).trans (val 4 L16)
      have L17 := dep 5 (by kernel_rfl)
      have e17 : a.eval (.tmp 17) = .string s := (ev 5 17 L17 (by kernel_rfl)).trans (val 5 L17)
      have L18 := dep 6 (by kernel_rfl)
      have e18 : a.eval (.tmp 18) = .int .u64 (n : Int) := (ev 6 18 L18 (by kernel_rfl)).trans (val 6 L18)
      refine Inv.wp_call (by clear hK K dep up val ev out; generalize a.eval = ρ at *; (simp [execOp, go_sem, *]; done)) ((refDerive_any key s ls n x HK.out HS.out HLB.out HN.out).mono ?_)
      rintro e w' ⟨rfl, g⟩
      rw [HD.out]
      exact ⟨_, rfl, hK.out _ _ g rfl⟩
    · refine Inv.duty_plain rfl rfl (fun L vs a x hG dep up val ev out K hK => ?_)
      obtain ⟨hB, hW⟩ := hG
      have L15 := dep 3 (by kernel_rfl)
      have e15 : a.eval (.tmp 15) = .agg (bcells D).toArray := (ev 3 15 L15 (by kernel_rfl)).trans (val 3 L15)
      have L19 := dep 7 (by kernel_rfl)
      have e19 : a.eval (.tmp 19) = .agg (bcells D).toArray := (ev 7 19 L19 (by kernel_rfl)).trans (val 7 L19)
      exact wp_eqV (by kernel_rfl) (.tmp 15) (.tmp 19) rfl e15 e19 (HED.out) (hK.out _ _ (World.grownBy.refl x _) rfl)
    · refine Inv.duty_plain rfl rfl (fun L vs a x hG dep up val ev out K hK => ?_)
      obtain ⟨hB, hW⟩ := hG
      have L20 := dep 8 (by kernel_rfl)
      have e20 : a.eval (.tmp 20) = .bool true := (ev 8 20 L20 (by kernel_rfl)).trans (val 8 L20)
      refine Inv.wp_value (v := .bool true) ?_ (hK.out _ _ (World.grownBy.refl x _) rfl)
      clear hK K dep up val ev out
      generalize a.eval = ρ at *
      (simp [execOp, go_sem, *]; done)
    · refine duty_if rfl rfl rfl (by kernel_rfl) (fun v w h => h) (fun L vs a x hG dep up val ev out K hK => ?_)
      obtain ⟨hB, hW⟩ := hG
      have e1 : a.eval (.tmp 1) = .string s := (out 1 (by kernel_rfl)).trans rfl
      refine Inv.wp_value (v := .string s) ?_ (hK.out _ _ (World.grownBy.refl x _) rfl)
      clear hK K dep up val ev out
      generalize a.eval = ρ at *
      (simp [execOp, go_sem, *]; done)
    · refine duty_if rfl rfl rfl (by kernel_rfl) (fun v w h => h) (fun L vs a x hG dep up val ev out K hK => ?_)
      obtain ⟨hB, hW⟩ := hG
      have e3 : a.eval (.tmp 3) = .pointer (some ⟨w.heap.size, 0, none⟩) := (out 3 (by kernel_rfl)).trans rfl
      refine Inv.wp_value (v := .slice (some ⟨w.heap.size, 0, none⟩) 16 16) ?_ (hK.out _ _ (World.grownBy.refl x _) rfl)
      clear hK K dep up val ev out
      generalize a.eval = ρ at *
      (simp [execOp, go_sem, *]; done)
    · refine duty_if rfl rfl rfl (by kernel_rfl) (fun v w h => h) (fun L vs a x hG dep up val ev out K hK => ?_)
      obtain ⟨hB, hW⟩ := hG
      have L23 := dep 11 (by kernel_rfl)
      have e23 : a.eval (.tmp 23) = .slice (some ⟨w.heap.size, 0, none⟩) 16 16 := (ev 11 23 L23 (by kernel_rfl)).trans (val 11 L23)
      have hr := RB.of_CB hB (by rw [HK.out]; unfold maxLen; omega) HK.out
      have s1 := run_strB byteT Tryd.underlying9 hr
      rw [HK.out] at s1
      exact wp_convV (.tmp 23) rfl e23 s1 (hK.out _ _ (World.grownBy.refl x _) rfl)
    · refine duty_if rfl rfl rfl (by kernel_rfl) (fun v w h => h) (fun L vs a x hG dep up val ev out K hK => ?_)
      obtain ⟨hB, hW⟩ := hG
      have ef : ∀ f, a.eval (.func f) = .func (.func f) #[] #[] := fun _ => rfl
      have L22 := dep 10 (by kernel_rfl)
      have e22 : a.eval (.tmp 22) = .string s := (ev 10 22 L22 (by kernel_rfl)).trans (val 10 L22)
      have L24 := dep 12 (by kernel_rfl)
      have e24 : a.eval (.tmp 24) = .string ⟨key.toArray⟩ := (ev 12 24 L24 (by kernel_rfl)).trans (val 12 L24)
      refine Inv.wp_call (by clear hK K dep up val ev out; generalize a.eval = ρ at *; (simp [execOp, go_sem, *]; done)) ((password_any s ⟨key.toArray⟩ ls key x (HT.out.grown hW (fun e => by cases e)) HS.out rfl HLB.out (by rw [HK.out]; omega)).mono ?_)
      rintro e w' ⟨rfl, g⟩
      rw [HPW.out]
      exact ⟨_, rfl, hK.out _ _ g rfl⟩
    · refine duty_if rfl rfl rfl (by kernel_rfl) (fun v w h => h) (fun L vs a x hG dep up val ev out K hK => ?_)
      obtain ⟨hB, hW⟩ := hG
      have e1 : a.eval (.tmp 1) = .string s := (out 1 (by kernel_rfl)).trans rfl
      refine Inv.wp_value (v := .string s) ?_ (hK.out _ _ (World.grownBy.refl x _) rfl)
      clear hK K dep up val ev out
      generalize a.eval = ρ at *
      (simp [execOp, go_sem, *]; done)
    · refine duty_if rfl rfl rfl (by kernel_rfl) (fun v w h => h) (fun L vs a x hG dep up val ev out K hK => ?_)
      obtain ⟨hB, hW⟩ := hG
      have e3 : a.eval (.tmp 3) = .pointer (some ⟨w.heap.size, 0, none⟩) := (out 3 (by kernel_rfl)).trans rfl
      refine Inv.wp_value (v := .slice (some ⟨w.heap.size, 0, none⟩) 16 16) ?_ (hK.out _ _ (World.grownBy.refl x _) rfl)
      clear hK K dep up val ev out
      generalize a.eval = ρ at *
      (simp [execOp, go_sem, *]; done)
    · refine duty_if rfl rfl rfl (by kernel_rfl) (fun v w h => h) (fun L vs a x hG dep up val ev out K hK => ?_)
      obtain ⟨hB, hW⟩ := hG
      have L27 := dep 15 (by kernel_rfl)
      have e27 : a.eval (.tmp 27) = .slice (some ⟨w.heap.size, 0, none⟩) 16 16 := (ev 15 27 L27 (by kernel_rfl)).trans (val 15 L27)
      have hr := RB.of_CB hB (by rw [HK.out]; unfold maxLen; omega) HK.out
      have s1 := run_strB byteT Tryd.underlying9 hr
      rw [HK.out] at s1
      exact wp_convV (.tmp 27) rfl e27 s1 (hK.out _ _ (World.grownBy.refl x _) rfl)
    · refine duty_if rfl rfl rfl (by kernel_rfl) (fun v w h => h) (fun L vs a x hG dep up val ev out K hK => ?_)
      obtain ⟨hB, hW⟩ := hG
      have ef : ∀ f, a.eval (.func f) = .func (.func f) #[] #[] := fun _ => rfl
      have L26 := dep 14 (by kernel_rfl)
      have e26 : a.eval (.tmp 26) = .string s := (ev 14 26 L26 (by kernel_rfl)).trans (val 14 L26)
      have L28 := dep 16 (by kernel_rfl)
      have e28 : a.eval (.tmp 28) = .string ⟨key.toArray⟩ := (ev 16 28 L28 (by kernel_rfl)).trans (val 16 L28)
      refine Inv.wp_call (by clear hK K dep up val ev out; generalize a.eval = ρ at *; (simp [execOp, go_sem, *]; done)) ((refPassword_any s ⟨key.toArray⟩ ls key x HS.out rfl HLB.out (by rw [HK.out]; omega)).mono ?_)
      rintro e w' ⟨rfl, g⟩
      rw [HPW.out]
      exact ⟨_, rfl, hK.out _ _ g rfl⟩
    · refine duty_if rfl rfl rfl (by kernel_rfl) (fun v w h => h) (fun L vs a x hG dep up val ev out K hK => ?_)
      obtain ⟨hB, hW⟩ := hG
      have L25 := dep 13 (by kernel_rfl)
      have e25 : a.eval (.tmp 25) = .agg (bcells PW).toArray := (ev 13 25 L25 (by kernel_rfl)).trans (val 13 L25)
      have L29 := dep 17 (by kernel_rfl)
      have e29 : a.eval (.tmp 29) = .agg (bcells PW).toArray := (ev 17 29 L29 (by kernel_rfl)).trans (val 17 L29)
      exact wp_eqV (by kernel_rfl) (.tmp 25) (.tmp 29) rfl e25 e29 (HEP.out) (hK.out _ _ (World.grownBy.refl x _) rfl)
    · refine Inv.duty_plain rfl rfl (fun L vs a x hG dep up val ev out K hK => ?_)
      obtain ⟨hB, hW⟩ := hG
      have ek : ∀ u, a.eval (.const u) = u := fun _ => rfl
      have L21 := dep 9 (by kernel_rfl)
      have e21 : a.eval (.tmp 21) = .bool true := (ev 9 21 L21 (by kernel_rfl)).trans (val 9 L21)
      have L30 := dep 18 (by kernel_rfl)
      have e30 : a.eval (.tmp 30) = .bool true := (ev 18 30 L30 (by kernel_rfl)).trans (val 18 L30)
      refine Inv.wp_value (v := .bool true) ?_ (hK.out _ _ (World.grownBy.refl x _) rfl)
      clear hK K dep up val ev out
      generalize a.eval = ρ at *
      (simp [execOp, go_sem, *]; done)
    · refine Inv.duty_plain rfl rfl (fun L vs a x hG dep up val ev out K hK => ?_)
      obtain ⟨hB, hW⟩ := hG
      have L31 := dep 19 (by kernel_rfl)
      have e31 : a.eval (.tmp 31) = .bool true := (ev 19 31 L31 (by kernel_rfl)).trans (val 19 L31)
      refine Inv.wp_value (v := .bool true) ?_ (hK.out _ _ (World.grownBy.refl x _) rfl)
      clear hK K dep up val ev out
      generalize a.eval = ρ at *
      (simp [execOp, go_sem, *]; done)
    intro vs w' hG hv
    have hZ : vs 20 = .bool true := hv 20 (by omega)
    simp only [Inv.putAll, Act.put, List.setIfInBounds_toArray, List.set_cons_zero, List.set_cons_succ, Nat.zero_add, Nat.reduceAdd]
    rw [hZ]
    clear hv
    have HG := Lib.hid hG.2
    clear hZ hG
    go_wp2
    go_ret
    exact ⟨rfl, below_of_none HG.out⟩
end Go.Proofs.YtndnmjolcilamaaDoor
