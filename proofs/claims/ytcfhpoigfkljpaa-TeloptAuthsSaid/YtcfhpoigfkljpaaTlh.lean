/- The walk of the document's Write. -/
import Derived.Test.YtcfhpoigfkljpaaTlg
namespace Go.Proofs.Ytcfhpoigfkljpaa
open Go.ChangeShapes Go.WideShapes Go.RowKit
set_option linter.unusedVariables false

section
variable {w : World} {base : Nat}
set_option maxHeartbeats 2000000 in
theorem rw_a (w : World) (k v o : Int) (d : List UInt8) (A : Option Addr) (n cap : Nat) (hn : d.length = n) (hr : RB w w.heap.size A d cap) (hnl : n ≤ 1000000) (h1 : k < 1) :
    Calls Try.prog 10 #[.agg #[.int .i64 k, .int .i64 v, .int .i64 o, .slice A n cap]] w fun e w' => WtR w w' ⟨k, v, o, d⟩ e := by
  have he : wrE ⟨k, v, o, d⟩ = 1 := by
    unfold wrE
    simp only
    rw [if_pos (by omega)]
  have HE := Lib.hid he
  have HW := Lib.hid (show wrF ⟨k, v, o, d⟩ = [] by unfold wrF; rw [if_pos (by rw [he]; simp)])
  have HR := Lib.hid hr
  have HN := Lib.hid hn
  have HNL := Lib.hid hnl
  clear hn hr hnl he
  go_enter Try.func10, Try.ntmps10
  go_wp2
  go_ret2
  exact ⟨_, by rw [HE.out]; rfl, by rw [HW.out]; have := OwnB.new0 (w.alloc (.cells #[.int .i64 k, .int .i64 v, .int .i64 o, .slice A n cap] 24)) w.heap.size 5 (by simp); rw [World.size_alloc] at this; exact this, grown_trans' (grown_alloc _ _ _) (grown_alloc _ _ _)⟩
set_option maxHeartbeats 2000000 in
theorem rw_b (w : World) (k v o : Int) (d : List UInt8) (A : Option Addr) (n cap : Nat) (hn : d.length = n) (hr : RB w w.heap.size A d cap) (hnl : n ≤ 1000000) (h1 : ¬ k < 1) (h3 : 3 < k) :
    Calls Try.prog 10 #[.agg #[.int .i64 k, .int .i64 v, .int .i64 o, .slice A n cap]] w fun e w' => WtR w w' ⟨k, v, o, d⟩ e := by
  have he : wrE ⟨k, v, o, d⟩ = 1 := by
    unfold wrE
    simp only
    rw [if_pos (by omega)]
  have HE := Lib.hid he
  have HW := Lib.hid (show wrF ⟨k, v, o, d⟩ = [] by unfold wrF; rw [if_pos (by rw [he]; simp)])
  have HR := Lib.hid hr
  have HN := Lib.hid hn
  have HNL := Lib.hid hnl
  clear hn hr hnl he
  go_enter Try.func10, Try.ntmps10
  go_wp2
  go_ret2
  exact ⟨_, by rw [HE.out]; rfl, by rw [HW.out]; have := OwnB.new0 (w.alloc (.cells #[.int .i64 k, .int .i64 v, .int .i64 o, .slice A n cap] 24)) w.heap.size 5 (by simp); rw [World.size_alloc] at this; exact this, grown_trans' (grown_alloc _ _ _) (grown_alloc _ _ _)⟩
set_option maxHeartbeats 2000000 in
theorem rw_c (w : World) (k v o : Int) (d : List UInt8) (A : Option Addr) (n cap : Nat) (hn : d.length = n) (hr : RB w w.heap.size A d cap) (hnl : n ≤ 1000000) (h1 : ¬ k < 1) (h3 : ¬ 3 < k) (h2 : 1 < k) (ho : o < 0) :
    Calls Try.prog 10 #[.agg #[.int .i64 k, .int .i64 v, .int .i64 o, .slice A n cap]] w fun e w' => WtR w w' ⟨k, v, o, d⟩ e := by
  have he : wrE ⟨k, v, o, d⟩ = 1 := by
    unfold wrE
    simp only
    rw [if_pos (by omega)]
  have HE := Lib.hid he
  have HW := Lib.hid (show wrF ⟨k, v, o, d⟩ = [] by unfold wrF; rw [if_pos (by rw [he]; simp)])
  have HR := Lib.hid hr
  have HN := Lib.hid hn
  have HNL := Lib.hid hnl
  clear hn hr hnl he
  go_enter Try.func10, Try.ntmps10
  go_wp2
  go_ret2
  exact ⟨_, by rw [HE.out]; rfl, by rw [HW.out]; have := OwnB.new0 (w.alloc (.cells #[.int .i64 k, .int .i64 v, .int .i64 o, .slice A n cap] 24)) w.heap.size 5 (by simp); rw [World.size_alloc] at this; exact this, grown_trans' (grown_alloc _ _ _) (grown_alloc _ _ _)⟩
set_option maxHeartbeats 2000000 in
theorem rw_d (w : World) (k v o : Int) (d : List UInt8) (A : Option Addr) (n cap : Nat) (hn : d.length = n) (hr : RB w w.heap.size A d cap) (hnl : n ≤ 1000000) (h1 : ¬ k < 1) (h3 : ¬ 3 < k) (h2 : 1 < k) (ho : ¬ o < 0) (ho2 : 255 < o) :
    Calls Try.prog 10 #[.agg #[.int .i64 k, .int .i64 v, .int .i64 o, .slice A n cap]] w fun e w' => WtR w w' ⟨k, v, o, d⟩ e := by
  have he : wrE ⟨k, v, o, d⟩ = 1 := by
    unfold wrE
    simp only
    rw [if_pos (by omega)]
  have HE := Lib.hid he
  have HW := Lib.hid (show wrF ⟨k, v, o, d⟩ = [] by unfold wrF; rw [if_pos (by rw [he]; simp)])
  have HR := Lib.hid hr
  have HN := Lib.hid hn
  have HNL := Lib.hid hnl
  clear hn hr hnl he
  go_enter Try.func10, Try.ntmps10
  go_wp2
  go_ret2
  exact ⟨_, by rw [HE.out]; rfl, by rw [HW.out]; have := OwnB.new0 (w.alloc (.cells #[.int .i64 k, .int .i64 v, .int .i64 o, .slice A n cap] 24)) w.heap.size 5 (by simp); rw [World.size_alloc] at this; exact this, grown_trans' (grown_alloc _ _ _) (grown_alloc _ _ _)⟩
set_option maxHeartbeats 2000000 in
theorem rw_e (w : World) (v o : Int) (d : List UInt8) (A : Option Addr) (n cap : Nat) (hn : d.length = n) (hr : RB w w.heap.size A d cap) (hnl : n ≤ 1000000) (ho : ¬ o < 0) (ho2 : ¬ 255 < o) (hv : v < 251) :
    Calls Try.prog 10 #[.agg #[.int .i64 2, .int .i64 v, .int .i64 o, .slice A n cap]] w fun e w' => WtR w w' ⟨2, v, o, d⟩ e := by
  have he : wrE ⟨2, v, o, d⟩ = 1 := by
    unfold wrE
    simp only
    rw [if_pos (.inr (.inr (.inr ⟨trivial, .inl hv⟩)))]
  have HE := Lib.hid he
  have HW := Lib.hid (show wrF ⟨2, v, o, d⟩ = [] by unfold wrF; rw [if_pos (by rw [he]; simp)])
  have HR := Lib.hid hr
  have HN := Lib.hid hn
  have HNL := Lib.hid hnl
  clear hn hr hnl he
  go_enter Try.func10, Try.ntmps10
  go_wp2
  go_ret2
  exact ⟨_, by rw [HE.out]; rfl, by rw [HW.out]; have := OwnB.new0 (w.alloc (.cells #[.int .i64 2, .int .i64 v, .int .i64 o, .slice A n cap] 24)) w.heap.size 5 (by simp); rw [World.size_alloc] at this; exact this, grown_trans' (grown_alloc _ _ _) (grown_alloc _ _ _)⟩
set_option maxHeartbeats 2000000 in
theorem rw_f (w : World) (v o : Int) (d : List UInt8) (A : Option Addr) (n cap : Nat) (hn : d.length = n) (hr : RB w w.heap.size A d cap) (hnl : n ≤ 1000000) (ho : ¬ o < 0) (ho2 : ¬ 255 < o) (hv : ¬ v < 251) (hv2 : 254 < v) :
    Calls Try.prog 10 #[.agg #[.int .i64 2, .int .i64 v, .int .i64 o, .slice A n cap]] w fun e w' => WtR w w' ⟨2, v, o, d⟩ e := by
  have he : wrE ⟨2, v, o, d⟩ = 1 := by
    unfold wrE
    simp only
    rw [if_pos (.inr (.inr (.inr ⟨trivial, .inr hv2⟩)))]
  have HE := Lib.hid he
  have HW := Lib.hid (show wrF ⟨2, v, o, d⟩ = [] by unfold wrF; rw [if_pos (by rw [he]; simp)])
  have HR := Lib.hid hr
  have HN := Lib.hid hn
  have HNL := Lib.hid hnl
  clear hn hr hnl he
  go_enter Try.func10, Try.ntmps10
  go_wp2
  go_ret2
  exact ⟨_, by rw [HE.out]; rfl, by rw [HW.out]; have := OwnB.new0 (w.alloc (.cells #[.int .i64 2, .int .i64 v, .int .i64 o, .slice A n cap] 24)) w.heap.size 5 (by simp); rw [World.size_alloc] at this; exact this, grown_trans' (grown_alloc _ _ _) (grown_alloc _ _ _)⟩
set_option maxHeartbeats 2000000 in
theorem rw_g (w : World) (v o : Int) (d : List UInt8) (A : Option Addr) (n cap : Nat) (hn : d.length = n) (hr : RB w w.heap.size A d cap) (hnl : n ≤ 1000000) (ho : ¬ o < 0) (ho2 : ¬ 255 < o) (h3 : 3000 < n) :
    Calls Try.prog 10 #[.agg #[.int .i64 3, .int .i64 v, .int .i64 o, .slice A n cap]] w fun e w' => WtR w w' ⟨3, v, o, d⟩ e := by
  have he : wrE ⟨3, v, o, d⟩ = 23 := by
    unfold wrE
    simp only
    rw [if_neg (by omega), if_pos (by rw [hn]; omega)]
  have HE := Lib.hid he
  have HW := Lib.hid (show wrF ⟨3, v, o, d⟩ = [] by unfold wrF; rw [if_pos (by rw [he]; simp)])
  have HR := Lib.hid hr
  have HN := Lib.hid hn
  have HNL := Lib.hid hnl
  have hl : (3000 : Int) < (n : Int) := by omega
  clear hn hr hnl he
  go_enter Try.func10, Try.ntmps10
  go_wp2
  go_ret2
  exact ⟨_, by rw [HE.out]; rfl, by rw [HW.out]; have := OwnB.new0 (w.alloc (.cells #[.int .i64 3, .int .i64 v, .int .i64 o, .slice A n cap] 24)) w.heap.size 5 (by simp); rw [World.size_alloc] at this; exact this, grown_trans' (grown_alloc _ _ _) (grown_alloc _ _ _)⟩
set_option maxHeartbeats 2000000 in
theorem rw_h (w : World) (v o : Int) (d : List UInt8) (A : Option Addr) (n cap : Nat) (hn : d.length = n) (hr : RB w w.heap.size A d cap) (hnl : n ≤ 1000000) (h3 : 3000 < n) :
    Calls Try.prog 10 #[.agg #[.int .i64 1, .int .i64 v, .int .i64 o, .slice A n cap]] w fun e w' => WtR w w' ⟨1, v, o, d⟩ e := by
  have he : wrE ⟨1, v, o, d⟩ = 23 := by
    unfold wrE
    simp only
    rw [if_neg (by omega), if_pos (by rw [hn]; omega)]
  have HE := Lib.hid he
  have HW := Lib.hid (show wrF ⟨1, v, o, d⟩ = [] by unfold wrF; rw [if_pos (by rw [he]; simp)])
  have HR := Lib.hid hr
  have HN := Lib.hid hn
  have HNL := Lib.hid hnl
  have hl : (3000 : Int) < (n : Int) := by omega
  clear hn hr hnl he
  go_enter Try.func10, Try.ntmps10
  go_wp2
  go_ret2
  exact ⟨_, by rw [HE.out]; rfl, by rw [HW.out]; have := OwnB.new0 (w.alloc (.cells #[.int .i64 1, .int .i64 v, .int .i64 o, .slice A n cap] 24)) w.heap.size 5 (by simp); rw [World.size_alloc] at this; exact this, grown_trans' (grown_alloc _ _ _) (grown_alloc _ _ _)⟩
set_option maxHeartbeats 2000000 in
theorem rw_2 (w : World) (v o : Int) (d : List UInt8) (A : Option Addr) (n cap : Nat) (hn : d.length = n) (hr : RB w w.heap.size A d cap) (hnl : n ≤ 1000000) (ho : ¬ o < 0) (ho2 : ¬ 255 < o) (hv : ¬ v < 251) (hv2 : ¬ 254 < v) (he : wrE ⟨2, v, o, d⟩ = 0) :
    Calls Try.prog 10 #[.agg #[.int .i64 2, .int .i64 v, .int .i64 o, .slice A n cap]] w fun e w' => WtR w w' ⟨2, v, o, d⟩ e := by
  have HE := Lib.hid he
  have HW := Lib.hid (show wrF ⟨2, v, o, d⟩ = [255, UInt8.ofNat v.toNat, UInt8.ofNat o.toNat] by unfold wrF; rw [if_neg (by rw [he]; simp)]; simp)
  have HR := Lib.hid hr
  have HN := Lib.hid hn
  have HNL := Lib.hid hnl
  have hwo : IntKind.u8.wrap o = o := by simp [IntKind.wrap, IntKind.bits, IntKind.signed]; omega
  have HUO := Lib.hid (u8n (x := o) (by omega) (by omega))
  have hwv : IntKind.u8.wrap v = v := by simp [IntKind.wrap, IntKind.bits, IntKind.signed]; omega
  have HUV := Lib.hid (u8n (x := v) (by omega) (by omega))
  clear hn hr hnl he
  go_enter Try.func10, Try.ntmps10
  go_wp2
  go_ret2
  exact ⟨_, by rw [HE.out]; rfl, by rw [HW.out]; have h := OwnB.newN (w.alloc (.cells #[.int .i64 2, .int .i64 v, .int .i64 o, .slice A n cap] 24)) w.heap.size 5 [255, UInt8.ofNat v.toNat, UInt8.ofNat o.toNat] _ (bc3 _ _ _ rfl HUV.out.symm HUO.out.symm) (by simp) (by simp [maxLen]); rw [World.size_alloc] at h; exact h, grown_trans' (grown_alloc _ _ _) (grown_alloc _ _ _)⟩
set_option maxHeartbeats 2000000 in
theorem rw_1 (w : World) (v o : Int) (d : List UInt8) (A : Option Addr) (n cap : Nat) (hn : d.length = n) (hr : RB w w.heap.size A d cap) (hnl : n ≤ 1000000) (h3 : ¬ 3000 < n) (he : wrE ⟨1, v, o, d⟩ = 0) :
    Calls Try.prog 10 #[.agg #[.int .i64 1, .int .i64 v, .int .i64 o, .slice A n cap]] w fun e w' => WtR w w' ⟨1, v, o, d⟩ e := by
  have HE := Lib.hid he
  have HW := Lib.hid (show wrF ⟨1, v, o, d⟩ = escF d by unfold wrF; rw [if_neg (by rw [he]; simp)]; simp)
  have HR := Lib.hid hr
  have HN := Lib.hid hn
  have HNL := Lib.hid hnl
  have hl : ¬ (3000 : Int) < (n : Int) := by omega
  clear hn hr hnl he
  go_enter Try.func10, Try.ntmps10
  go_wp2_with (first
    | (go_at_call 24
       obtain ⟨wb, hwb⟩ : ∃ wb, wb = w.alloc (.cells #[.int .i64 1, .int .i64 v, .int .i64 o, .slice A n cap] 24) := ⟨_, rfl⟩
       have GB := Lib.hid (show w.grownBy wb none by rw [hwb]; exact grown_alloc _ _ _)
       rw [← hwb]
       clear hwb
       refine (escaped_any A d n cap HN.out ((HR.out.below (below_of_none GB.out)).more GB.out.size) HNL.out).mono ?_
       rintro e w2 ⟨v2, rfl, o2, g2⟩
       have O2 := Lib.hid (o2.base_ GB.out.size)
       have G2 := Lib.hid (grown_trans' GB.out g2)
       clear o2 g2))
  go_ret2
  exact ⟨_, by rw [HE.out]; rfl, by rw [HW.out]; exact O2.out, G2.out⟩
/-- The box holds the part still. -/
def BkS (g : Nat) (A : Option Addr) (n cap : Nat) (o : Int) (x : World) : Prop := x.cell? ⟨g, 2, none⟩ = some (.int .i64 o) ∧ x.cell? ⟨g, 3, none⟩ = some (.slice A n cap) ∧ g < x.heap.size
theorem BkS.none_ {g : Nat} {A : Option Addr} {n cap : Nat} {o : Int} {x y : World} (h : BkS g A n cap o x) (hg : x.grownBy y none) : BkS g A n cap o y :=
  ⟨(World.cell?_of_block (hg.block g h.2.2 (fun e => by cases e))).trans h.1, (World.cell?_of_block (hg.block g h.2.2 (fun e => by cases e))).trans h.2.1, Nat.lt_of_lt_of_le h.2.2 hg.size⟩
theorem BkS.row {g : Nat} {A : Option Addr} {n cap : Nat} {o : Int} {x y : World} {r : Option Nat} (h : BkS g A n cap o x) (hg : x.grownBy y r) (hr : r ≠ some g) : BkS g A n cap o y :=
  ⟨(World.cell?_of_block (hg.block g h.2.2 (fun e => hr e.symm))).trans h.1, (World.cell?_of_block (hg.block g h.2.2 (fun e => hr e.symm))).trans h.2.1, Nat.lt_of_lt_of_le h.2.2 hg.size⟩
theorem yields_cellX {P : Program} {ops : Array Oper} {S : World → Prop} {oi : Oper} {a : Act} {ty : TypeId} (hag : ∀ w, (isAgg ty).run P w = .ok false w) (x : Operand) (ho : oi.op = .load ty x) (hw : Region.wanted oi (yielded ops a.tmps) = true)
    {ad : Addr} {v : Value} (h : ∀ wx, S wx → wx.cell? ad = some v) (hx : a.eval x = .pointer (some ad)) : YieldsIf P ops S oi v a := by
  refine .inl ⟨hw, fun wx hS => ?_⟩
  have hc := h wx hS
  unfold execOp
  simp only [ho, hx]
  simp [go_sem, hag, hc]
theorem aggI : ∀ w, (isAgg 3).run Try.prog w = .ok false w := fun w => by kernel_rfl
theorem aggB : ∀ w, (isAgg 22).run Try.prog w = .ok false w := fun w => by kernel_rfl
set_option maxHeartbeats 2000000 in
theorem rw_3 (w : World) (v o : Int) (d : List UInt8) (A : Option Addr) (n cap : Nat) (hn : d.length = n) (hr : RB w w.heap.size A d cap) (hnl : n ≤ 1000000) (ho : ¬ o < 0) (ho2 : ¬ 255 < o) (h3 : ¬ 3000 < n) (he : wrE ⟨3, v, o, d⟩ = 0) :
    Calls Try.prog 10 #[.agg #[.int .i64 3, .int .i64 v, .int .i64 o, .slice A n cap]] w fun e w' => WtR w w' ⟨3, v, o, d⟩ e := by
  have HE := Lib.hid he
  have HW := Lib.hid (show wrF ⟨3, v, o, d⟩ = [255, 250, UInt8.ofNat o.toNat] ++ escF d ++ [255, 240] by unfold wrF; rw [if_neg (by rw [he]; simp)]; simp)
  have HR := Lib.hid hr
  have HN := Lib.hid hn
  have HNL := Lib.hid hnl
  have hwo : IntKind.u8.wrap o = o := by simp [IntKind.wrap, IntKind.bits, IntKind.signed]; omega
  have HUO := Lib.hid (u8n (x := o) (by omega) (by omega))
  have hl : ¬ (3000 : Int) < (n : Int) := by omega
  clear hn hr hnl he
  go_enter Try.func10, Try.ntmps10
  go_wp2
  obtain ⟨wb, hwb⟩ : ∃ wb, wb = w.alloc (.cells #[.int .i64 3, .int .i64 v, .int .i64 o, .slice A n cap] 24) := ⟨_, rfl⟩
  have GB := Lib.hid (show w.grownBy wb none by rw [hwb]; exact grown_alloc _ _ _)
  have CB0 := Lib.hid (show CB wb w.heap.size 24 [.int .i64 3, .int .i64 v, .int .i64 o, .slice A n cap] by rw [hwb]; exact CB.new _ _ _)
  rw [← hwb]
  clear hwb
  obtain ⟨wd, hwd⟩ : ∃ x, wb.drew = x := ⟨_, rfl⟩
  have GD := Lib.hid (show w.grownBy wd none by rw [← hwd]; exact grown_drew GB.out)
  have hS0 : BkS w.heap.size A n cap o wd := by rw [← hwd]; exact ⟨CB0.out.at_ rfl, CB0.out.at_ rfl, CB0.out.lt⟩
  have hbk := fun {x y : World} (hg : x.grownBy y none) (h : BkS w.heap.size A n cap o x) => h.none_ hg
  refine helds_begin (BkS w.heap.size A n cap o) (by kernel_rfl) (by rw [hwd]; exact hS0) (fun _ => ?_)
  try rw [hwd]
  refine helds_take (i := 0) (d := some 65) (v := ?vr9_1) (by assumption) rfl rfl (by kernel_rfl) (fun _ _ _ h => h) ?yr9_1 ?_; case yr9_1 => (refine Or.inl ⟨rfl, fun wx hS => ?_⟩; go_simp; try with_reducible rfl)
  try simp only [Act.put, List.setIfInBounds_toArray, List.set_cons_zero, List.set_cons_succ]
  refine helds_take (i := 1) (d := some 66) (v := _) (by assumption) rfl rfl (by kernel_rfl) (fun _ _ _ h => h) (yields_cellX aggI (.tmp 65) rfl rfl (fun wx hx => hx.1) (by first | rfl | go_simp)) ?_
  try simp only [Act.put, List.setIfInBounds_toArray, List.set_cons_zero, List.set_cons_succ]
  refine helds_take (i := 2) (d := some 67) (v := ?vr9_3) (by assumption) rfl rfl (by kernel_rfl) (fun _ _ _ h => h) ?yr9_3 ?_; case yr9_3 => (refine Or.inl ⟨rfl, fun wx hS => ?_⟩; go_simp; try with_reducible rfl)
  try simp only [Act.put, List.setIfInBounds_toArray, List.set_cons_zero, List.set_cons_succ]
  refine helds_take (i := 4) (d := some 69) (v := ?vr9_4) (by assumption) rfl rfl (by kernel_rfl) (fun _ _ _ h => h) ?yr9_4 ?_; case yr9_4 => (refine Or.inl ⟨rfl, fun wx hS => ?_⟩; go_simp; try with_reducible rfl)
  try simp only [Act.put, List.setIfInBounds_toArray, List.set_cons_zero, List.set_cons_succ]
  refine helds_take (i := 5) (d := some 70) (v := _) (by assumption) rfl rfl (by kernel_rfl) (fun _ _ _ h => h) (yields_cellX aggB (.tmp 69) rfl rfl (fun wx hx => hx.2.1) (by first | rfl | go_simp)) ?_
  try simp only [Act.put, List.setIfInBounds_toArray, List.set_cons_zero, List.set_cons_succ]
  refine helds_two (i := 3) (j := 6) (by kernel_rfl) rfl rfl rfl rfl (fun K hK => ?_) (fun K hK => ?_)
  · refine wp_litN (d := some 68) (e := 5) 3 #[.int .u8 255, .int .u8 250, .int .u8 o] rfl (by go_simp) ?_
    intro w3 hw3
    have O3 := Lib.hid (show OwnB w3 (w.heap.size + 1) 5 (.slice (some ⟨wd.heap.size, 0, none⟩) 3 3) [255, 250, UInt8.ofNat o.toNat] by rw [hw3]; exact OwnB.newN _ _ _ [255, 250, UInt8.ofNat o.toNat] _ (bc3 _ _ _ rfl rfl HUO.out.symm) (hS0).2.2 (by simp [maxLen]))
    have GA := Lib.hid (show wd.grownBy w3 none by rw [hw3]; exact grown_alloc _ _ _)
    have G3 := Lib.hid (grown_trans' GD.out GA.out)
    have hS3 := hbk GA.out (hS0)
    clear hw3
    refine hK.out _ _ (by assumption) (fun _ => ?_)
    clear hK K
    try simp only [Act.put, List.setIfInBounds_toArray, List.set_cons_zero, List.set_cons_succ]
    refine helds_one (i := 6) rfl (by kernel_rfl) rfl (fun K hK => ?_)
    refine wp_callD (d := some 71) (f := 24) (args := #[.slice A n cap]) rfl (by simp [execOp, go_sem]; done) ?_
    refine (escaped_any A d n cap HN.out ((HR.out.below (below_of_none G3.out)).more G3.out.size) HNL.out).mono ?_
    rintro e w6 ⟨v6, rfl, o6, g6⟩
    refine ⟨v6, rfl, ?_⟩
    have O6 := Lib.hid o6
    have L6 := Lib.hid g6
    have G6 := Lib.hid (grown_trans' G3.out g6)
    have hS6 := hbk g6 (hS3)
    clear o6 g6
    refine hK.out _ _ (by assumption) (fun _ => ?_)
    clear hK K
    try simp only [Act.put, List.setIfInBounds_toArray, List.set_cons_zero, List.set_cons_succ]
    refine helds_one (i := 7) rfl (by kernel_rfl) rfl (fun K hK => ?_)
    obtain ⟨A6, c6, hv6, r6, -⟩ := O6.out.shape
    refine wp_appB (d := some 72) byteT rfl (.tmp 68) (.tmp 71) rfl (OwnB.none_ O3.out L6.out) r6 rfl (by subst hv6; rfl) (by have := escF_length d; have := HN.out; have := HNL.out; simp only [List.length_cons, List.length_nil]; omega) (hS6).2.2 ?_
    intro v7 w7 o7 g7 a7
    have O7 := Lib.hid o7
    have G7 := Lib.hid (grown_row G6.out g7 (fun z hz => by have := ((OwnB.none_ O3.out L6.out).lt z hz).1; omega))
    have hS7 : BkS w.heap.size A n cap o w7 := BkS.row hS6 g7 (fun e => by have := ((OwnB.none_ O3.out L6.out).lt _ e).1; omega)
    clear o7 g7 a7 r6 hv6
    refine hK.out _ _ (by assumption) (fun _ => ?_)
    clear hK K
    try simp only [Act.put, List.setIfInBounds_toArray, List.set_cons_zero, List.set_cons_succ]
    refine helds_take (i := 8) (d := some 4) (v := ?vr9_6) (by assumption) rfl rfl (by kernel_rfl) (fun _ _ _ h => h) ?yr9_6 ?_; case yr9_6 => (refine Or.inl ⟨rfl, fun wx hS => ?_⟩; go_simp; try with_reducible rfl)
    try simp only [Act.put, List.setIfInBounds_toArray, List.set_cons_zero, List.set_cons_succ]
    refine held_end (by kernel_rfl) ?_ _
    clear hS0 hS3 hS6 hbk
    go_wp2_with (first
      | (at_builtin
         refine wpList_appB byteT rfl (.tmp 73) (.tmp 74) rfl (OwnB.none_ O7.out (grown_alloc _ _ none)) (rb2 _ _ 255 240 _ _ rfl rfl) (by first | rfl | go_simp) (by first | rfl | go_simp) (by have := escF_length d; have := HN.out; have := HNL.out; simp only [List.length_append, List.length_cons, List.length_nil]; omega) (by rw [World.size_alloc]; have := hS7.2.2; omega) ?_
         intro v8 w8 o8 g8 _ a8
         have O8 := Lib.hid o8
         have G8 := Lib.hid (grown_row (grown_trans' G7.out (grown_alloc _ _ none)) g8 (fun z hz => by have := (O7.out.lt z hz).1; omega))
         clear o8 g8 a8))
    go_ret2
    exact ⟨_, by rw [HE.out]; rfl, by rw [HW.out]; exact O8.out.base_ (Nat.le_succ _), G8.out⟩
  · refine wp_callD (d := some 71) (f := 24) (args := #[.slice A n cap]) rfl (by simp [execOp, go_sem]; done) ?_
    refine (escaped_any A d n cap HN.out ((HR.out.below (below_of_none GD.out)).more GD.out.size) HNL.out).mono ?_
    rintro e w6 ⟨v6, rfl, o6, g6⟩
    refine ⟨v6, rfl, ?_⟩
    have O6 := Lib.hid o6
    have L6 := Lib.hid g6
    have G6 := Lib.hid (grown_trans' GD.out g6)
    have hS6 := hbk g6 (hS0)
    clear o6 g6
    refine hK.out _ _ (by assumption) (fun _ => ?_)
    clear hK K
    try simp only [Act.put, List.setIfInBounds_toArray, List.set_cons_zero, List.set_cons_succ]
    refine helds_one (i := 3) rfl (by kernel_rfl) rfl (fun K hK => ?_)
    refine wp_litN (d := some 68) (e := 5) 3 #[.int .u8 255, .int .u8 250, .int .u8 o] rfl (by go_simp) ?_
    intro w3 hw3
    have O3 := Lib.hid (show OwnB w3 (w.heap.size + 1) 5 (.slice (some ⟨w6.heap.size, 0, none⟩) 3 3) [255, 250, UInt8.ofNat o.toNat] by rw [hw3]; exact OwnB.newN _ _ _ [255, 250, UInt8.ofNat o.toNat] _ (bc3 _ _ _ rfl rfl HUO.out.symm) (hS6).2.2 (by simp [maxLen]))
    have GA := Lib.hid (show w6.grownBy w3 none by rw [hw3]; exact grown_alloc _ _ _)
    have G3 := Lib.hid (grown_trans' G6.out GA.out)
    have hS3 := hbk GA.out (hS6)
    clear hw3
    refine hK.out _ _ (by assumption) (fun _ => ?_)
    clear hK K
    try simp only [Act.put, List.setIfInBounds_toArray, List.set_cons_zero, List.set_cons_succ]
    refine helds_one (i := 7) rfl (by kernel_rfl) rfl (fun K hK => ?_)
    obtain ⟨A6, c6, hv6, r6, -⟩ := O6.out.shape
    refine wp_appB (d := some 72) byteT rfl (.tmp 68) (.tmp 71) rfl O3.out ((r6.below (below_of_none GA.out)).more GA.out.size) rfl (by subst hv6; rfl) (by have := escF_length d; have := HN.out; have := HNL.out; simp only [List.length_cons, List.length_nil]; omega) (hS3).2.2 ?_
    intro v7 w7 o7 g7 a7
    have O7 := Lib.hid o7
    have G7 := Lib.hid (grown_row G3.out g7 (fun z hz => by have := (O3.out.lt z hz).1; omega))
    have hS7 : BkS w.heap.size A n cap o w7 := BkS.row hS3 g7 (fun e => by have := (O3.out.lt _ e).1; omega)
    clear o7 g7 a7 r6 hv6
    refine hK.out _ _ (by assumption) (fun _ => ?_)
    clear hK K
    try simp only [Act.put, List.setIfInBounds_toArray, List.set_cons_zero, List.set_cons_succ]
    refine helds_take (i := 8) (d := some 4) (v := ?vr9_7) (by assumption) rfl rfl (by kernel_rfl) (fun _ _ _ h => h) ?yr9_7 ?_; case yr9_7 => (refine Or.inl ⟨rfl, fun wx hS => ?_⟩; go_simp; try with_reducible rfl)
    try simp only [Act.put, List.setIfInBounds_toArray, List.set_cons_zero, List.set_cons_succ]
    refine held_end (by kernel_rfl) ?_ _
    clear hS0 hS3 hS6 hbk
    go_wp2_with (first
      | (at_builtin
         refine wpList_appB byteT rfl (.tmp 73) (.tmp 74) rfl (OwnB.none_ O7.out (grown_alloc _ _ none)) (rb2 _ _ 255 240 _ _ rfl rfl) (by first | rfl | go_simp) (by first | rfl | go_simp) (by have := escF_length d; have := HN.out; have := HNL.out; simp only [List.length_append, List.length_cons, List.length_nil]; omega) (by rw [World.size_alloc]; have := hS7.2.2; omega) ?_
         intro v8 w8 o8 g8 _ a8
         have O8 := Lib.hid o8
         have G8 := Lib.hid (grown_row (grown_trans' G7.out (grown_alloc _ _ none)) g8 (fun z hz => by have := (O7.out.lt z hz).1; omega))
         clear o8 g8 a8))
    go_ret2
    exact ⟨_, by rw [HE.out]; rfl, by rw [HW.out]; exact O8.out.base_ (Nat.le_succ _), G8.out⟩
theorem refWrite_any (w : World) (t : Tl) (A : Option Addr) (n cap : Nat) (hn : t.data.length = n) (hr : RB w w.heap.size A t.data cap) (hnl : n ≤ 1000000) :
    Calls Try.prog 10 #[.agg #[.int .i64 t.kind, .int .i64 t.verb, .int .i64 t.opt, .slice A n cap]] w fun e w' => WtR w w' t e := by
  obtain ⟨k, v, o, d⟩ := t
  by_cases h1 : k < 1
  · exact rw_a w k v o d A n cap hn hr hnl h1
  by_cases h3 : 3 < k
  · exact rw_b w k v o d A n cap hn hr hnl h1 h3
  by_cases k1 : k = 1
  · subst k1
    by_cases hl : 3000 < n
    · exact rw_h w v o d A n cap hn hr hnl hl
    · exact rw_1 w v o d A n cap hn hr hnl hl (by unfold wrE; rw [if_neg (by simp), if_neg (by simp only; rw [hn]; omega)])
  have h2 : 1 < k := by omega
  by_cases o1 : o < 0
  · exact rw_c w k v o d A n cap hn hr hnl h1 h3 h2 o1
  by_cases o2 : 255 < o
  · exact rw_d w k v o d A n cap hn hr hnl h1 h3 h2 o1 o2
  by_cases k2 : k = 2
  · subst k2
    by_cases v1 : v < 251
    · exact rw_e w v o d A n cap hn hr hnl o1 o2 v1
    by_cases v2 : 254 < v
    · exact rw_f w v o d A n cap hn hr hnl o1 o2 v1 v2
    · exact rw_2 w v o d A n cap hn hr hnl o1 o2 v1 v2 (by unfold wrE; rw [if_neg (by simp only; omega), if_neg (by simp)])
  · obtain rfl : k = 3 := by omega
    by_cases hl : 3000 < n
    · exact rw_g w v o d A n cap hn hr hnl o1 o2 hl
    · exact rw_3 w v o d A n cap hn hr hnl o1 o2 hl (by unfold wrE; rw [if_neg (by simp only; omega), if_neg (by simp only; rw [hn]; omega)])
end
end Go.Proofs.Ytcfhpoigfkljpaa
