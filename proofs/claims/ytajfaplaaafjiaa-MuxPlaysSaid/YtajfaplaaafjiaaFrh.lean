/- The walk of the document's Read. -/
import Derived.Test.YtajfaplaaafjiaaFrg
namespace Go.Proofs.Ytajfaplaaafjiaa
open Go.RowKit

theorem byteInfo : (Try.prog.info? 5).map (fun i => (i.zero, i.size, i.bytes)) = some (some (.int .u8 0), 1, 1) := by kernel_rfl
theorem yields_sliceS {P : Program} {ops : Array Oper} {S : World → Prop} {oi : Oper} {a : Act} {t : TypeId} {u v vl vh : Value} (x xl xh : Operand) (ho : oi.op = .slice t x (some xl) (some xh) none) (hw : Region.wanted oi (yielded ops a.tmps) = true) (hx : a.eval x = u) (hl : a.eval xl = vl) (hh : a.eval xh = vh)
    (h : ∀ wx, (Instr.sliceAt t u (some vl) (some vh) none).run P wx = .ok v wx) : YieldsIf P ops S oi v a := by
  refine .inl ⟨hw, fun wx _ => ?_⟩
  unfold execOp
  simp only [ho, hx, hl, hh, Option.map_some, Option.map_none, Sem.run_bind, Sem.run_pure, Result.andThen_ok, h wx]
theorem yields_cell1 {P : Program} {ops : Array Oper} {S : World → Prop} {oi : Oper} {a : Act} {ty : TypeId} (hag : ∀ w, (isAgg ty).run P w = .ok false w) (x : Operand) (ho : oi.op = .load ty x) (hw : Region.wanted oi (yielded ops a.tmps) = true)
    {ad : Addr} {v : Value} (h : ∀ wx, S wx → wx.cell? ad = some v) (hx : a.eval x = .pointer (some ad)) : YieldsIf P ops S oi v a := by
  refine .inl ⟨hw, fun wx hS => ?_⟩
  have hc := h wx hS
  unfold execOp
  simp only [ho, hx]
  simp [go_sem, hag, hc]
/-- A cut of bytes 's[l:h]'. -/
theorem run_cutB {l h len cap : Nat} {a : Option Addr} {li hi : Int} (hl : li = (l : Int)) (hh : hi = (h : Int)) (h1 : l ≤ h) (h2 : h ≤ cap) (w : World) :
    (Instr.sliceAt 22 (.slice a len cap) (some (.int .i64 li)) (some (.int .i64 hi)) none).run Try.prog w = .ok (.slice (if cap = l then a else a.map (·.add l)) (h - l) (cap - l)) w := by
  subst hl hh
  have ht : Try.prog.underlying 22 = some (.slice (Try.prog.elem 22)) := by kernel_rfl
  have hsz : (sizeOf (Try.prog.elem 22)).run Try.prog w = .ok 1 w := by kernel_rfl
  rw [run_sliceAt_slice _ _ _ _ _ _ ht, run_slice_lh _ _ _ _ _ ht _ _ _ _ (by omega) (by omega) (by omega), hsz]
  simp [sliced, Result.andThen]
section
variable {P : Program} {w : World} {o : Oper} {d : Option Tmp} {a : Act} {K : Act → World → Prop} {Q : Exit → Act → World → Prop} {t e : TypeId}
theorem run_lit0 (ht : P.underlying t = some (.slice e)) (hi : (P.info? e).map (fun i => (i.zero, i.size, i.bytes)) = some (some (.int .u8 0), 1, 1)) (w : World) :
    (Instr.buildSlice t 0 #[]).run P w = .ok (.slice (some ⟨w.heap.size, 0, none⟩) 0 0) (w.alloc (.cells #[] e)) := by
  obtain ⟨i0, hi, hz0, hz1, hz2⟩ := info_parts hi
  have hsz : ∀ w, (sizeOf e).run P w = .ok 1 w := by intro w; simp [sizeOf, typeInfo, hi, hz1]
  simp [Instr.buildSlice, run_underlying ht, hsz, Instr.fill, newRow, Result.andThen]
  congr 2
  exact Array.eq_empty_of_size_eq_zero (by simp)
theorem wp_lit0D (hd : o.dst = d) (ho : o.op = .buildSlice t 0 #[]) (ht : P.underlying t = some (.slice e)) (hi : (P.info? e).map (fun i => (i.zero, i.size, i.bytes)) = some (some (.int .u8 0), 1, 1))
    (hk : K (a.put d (.slice (some ⟨w.heap.size, 0, none⟩) 0 0)) (w.alloc (.cells #[] e))) : o.wp P a w K Q := by
  subst hd
  unfold Oper.wp execOp
  simp only [ho, List.map_toArray, List.map_nil, run_lit0 ht hi w, Sem.run_bind, Result.andThen_ok, Sem.run_pure]
  exact hk
theorem wp_lit1D {p zs : List Value} {sz : Nat} {x : Operand} (hd : o.dst = d) (ho : o.op = .buildSlice t 1 #[(0, x)]) (ht : P.underlying t = some (.slice e)) (hi : (P.info? e).map (·.size) = some sz) (hz : ∀ w, (zeroValue e).run P w = .ok (.agg zs.toArray) w) (hp : p.length = sz) (hs : sz ≤ 1000) (hpos : 0 < sz) (hx : a.eval x = .agg p.toArray)
    (hk : K (a.put d (.slice (some ⟨w.heap.size, 0, none⟩) 1 1)) (w.alloc (.cells p.toArray e))) : o.wp P a w K Q := by
  subst hd
  exact wp_lit1 ht hi hz hp hs hpos x ho hx hk
theorem wp_appFD {Q : Exit → Act → World → Prop} (hd : o.dst = d) (s x : Operand)
    (ho : o.op = .call { callee := .builtin .append, args := #[s, x], argTypes := #[33, 33] })
    {base : Nat} {Kk : Nat → Prop} {v u : Value} {fs : List Fr} {f : Fr} {ad : Addr} {c : Nat} (hown : OwnF w base Kk v fs) (hu : OwnB w base 5 u f.2) (hK : ∀ g, u.ownBlock = some g → Kk g)
    (h0 : w.cell? ad = some (.int .i64 f.1)) (h1 : w.cell? (ad.add 1) = some u)
    (hs : a.eval s = v) (hx : a.eval x = .slice (some ad) 1 c) (hlen : fs.length ≤ 1000000000000) (hbase : base ≤ w.heap.size)
    (h : ∀ v' w', OwnF w' base Kk v' (fs ++ [f]) → w.grownBy w' v.ownBlock → (v'.ownBlock = v.ownBlock ∨ v'.ownBlock = some w.heap.size) → K (a.put d v') w') : o.wp Try.prog a w K Q := by
  subst hd
  obtain ⟨v', w', hrun, h2, h3, h5⟩ := run_appF (c := c) o.type hown hu hK h0 h1 hlen hbase
  unfold Oper.wp execOp
  simp only [ho, resolve, invoke, builtin, Sem.run_bind, Sem.run_pure, Result.andThen_ok, List.map_toArray, List.map_cons, List.map_nil, hs, hx]
  rw [hrun]
  exact h v' w' h2 h3 h5
end

/-- What stands at the head of each round. -/
def RdRel (w : World) (b : List UInt8) (s5 s6 : Value) (wr : World) : Prop :=
  ∃ (k : Nat) (acc : List Fr), s6 = .int .i64 k ∧ k ≤ b.length ∧ OwnF wr w.heap.size (fun _ => True) s5 acc ∧ acc.length ≤ k ∧ w.grownBy wr none ∧ scan b = (acc ++ (scan (b.drop k)).1, (scan (b.drop k)).2)
/-- What it answers. -/
def RdPost (w : World) (b : List UInt8) (e : Ending) (w' : World) : Prop :=
  ∃ vf fs, e = .returned (.tuple #[vf, .int .i64 (scan b).2.1.length, .int .i64 (scan b).2.2]) ∧ OwnF w' w.heap.size (fun _ => True) vf fs ∧ ((scan b).2.2 = 0 → fs = (scan b).1) ∧ w.grownBy w' none

set_option maxRecDepth 10000 in
set_option maxHeartbeats 8000000 in
theorem refRead_any (w : World) (A : Option Addr) (b : List UInt8) (m cap : Nat) (hm : b.length = m) (hr : RB w w.heap.size A b cap) (hl : m ≤ 1000000) :
    Calls Try.prog 18 #[.slice A m cap] w (RdPost w b) := by
  have HR := Lib.hid hr
  have HMB := Lib.hid hm
  have hlc : m ≤ cap := by rw [← hm]; exact hr.1
  have hcm : cap ≤ 9223372036854775807 := hr.2.1
  have H0 := Lib.hid (show RdRel w b (.slice (some ⟨w.heap.size, 0, none⟩) 0 0) (.int .i64 0) (w.alloc (.cells #[] 24)) from ⟨0, [], rfl, Nat.zero_le _, OwnF.new0 w w.heap.size _ (Nat.le_refl _), Nat.le_refl _, grown_alloc _ _ _, by simp⟩)
  clear hr hm
  go_enter Try.func18, Try.ntmps18
  go_wp2
  go_loopw [5, 6, 7] (fun s5 s6 _ wr => RdRel w b s5 s6 wr) (fun _ s6 _ _ => m - (intOf s6).toNat)
  case atStart => exact H0.out
  case round =>
    obtain ⟨k, acc, rfl, hk, hof, hac, hgr, hsc⟩ := hrel
    rw [HMB.out] at hk
    have OF0 := Lib.hid hof
    have HG := Lib.hid hgr
    have HSC := Lib.hid hsc
    have HAC := Lib.hid hac
    have HDL := Lib.hid (show (b.drop k).length = m - k by rw [List.length_drop, HMB.out])
    have HDLI := Lib.hid (show ((b.drop k).length : Int) = (m : Int) - (k : Int) by rw [HDL.out]; omega)
    clear hof hgr hsc hac
    by_cases hlt : k < m
    · obtain ⟨bb, off, rfl, hb, hc⟩ := HR.out.open_ (by have := HMB.out; omega)
      have HC := Lib.hid (fun j hj => (below_rw HG.out (Nat.le_refl _)).cell (p := ⟨bb, off + j, none⟩) hb |>.trans (hc j hj))
      obtain ⟨y, hy⟩ : ∃ y, y = b[k]'(by have := HMB.out; omega) := ⟨_, rfl⟩
      have q0 : wr.cell? ⟨bb, off + k, none⟩ = some (.int .u8 (y.toNat : Int)) := by rw [hy]; exact HC.out k _
      have hd0 : (b.drop k).headD 0 = y := by rw [List.drop_eq_getElem_cons (by have := HMB.out; omega), hy]; rfl
      have hne : b.drop k ≠ [] := by intro e; have := HDL.out; rw [e] at this; simp at this; omega
      have hki : (k : Int) < (m : Int) := by omega
      have hx0 := y.toNat_lt
      have hwk : IntKind.i64.wrap ((k : Int) + 3) = (k : Int) + 3 := by simp [IntKind.wrap, IntKind.bits, IntKind.signed]; omega
      clear hc hb hy
      by_cases h4 : 4 < y.toNat
      · have hs := scan_chan hne (by rw [hd0]; exact h4)
        have HS := Lib.hid (show scan b = (acc, [], 100) by rw [HSC.out, hs]; simp)
        have h4i : (4 : Int) < (y.toNat : Int) := by omega
        clear hs hne hd0
        generalize y.toNat = y0 at *
        go_wp2
        go_ret3
        refine ⟨_, acc, ?_, OF0.out, fun e => ?_, HG.out⟩
        · rw [HS.out]; rfl
        · rw [HS.out] at e; exact absurd e (by simp)
      have h4i : ¬ (4 : Int) < (y.toNat : Int) := by omega
      by_cases h3 : m < k + 3
      · have hs := scan_inc (b := b.drop k) (.inr ⟨by rw [hd0]; omega, .inl (by rw [HDL.out]; omega)⟩)
        have HS := Lib.hid (show scan b = (acc, b.drop k, 0) by rw [HSC.out, hs]; simp)
        have h3i : (m : Int) < (k : Int) + 3 := by omega
        have hwm : IntKind.i64.wrap ((m : Int) - (k : Int)) = (m : Int) - (k : Int) := by simp [IntKind.wrap, IntKind.bits, IntKind.signed]; omega
        clear hs hne hd0
        generalize y.toNat = y0 at *
        go_wp2
        go_ret3
        refine ⟨_, acc, ?_, OF0.out, fun e => by rw [HS.out], HG.out⟩
        rw [HS.out]
        show _ = Ending.returned (Value.tuple #[_, .int .i64 ((b.drop k).length : Int), _])
        rw [HDLI.out]
        rfl
      have h3i : ¬ (m : Int) < (k : Int) + 3 := by omega
      obtain ⟨y1, hy1⟩ : ∃ y, y = b[k + 1]'(by have := HMB.out; omega) := ⟨_, rfl⟩
      obtain ⟨y2, hy2⟩ : ∃ y, y = b[k + 2]'(by have := HMB.out; omega) := ⟨_, rfl⟩
      have q1 : wr.cell? ⟨bb, off + (k + 1), none⟩ = some (.int .u8 (y1.toNat : Int)) := by rw [hy1]; exact HC.out (k + 1) _
      have q2 : wr.cell? ⟨bb, off + (k + 2), none⟩ = some (.int .u8 (y2.toNat : Int)) := by rw [hy2]; exact HC.out (k + 2) _
      have hx1 := y1.toNat_lt
      have hx2 := y2.toNat_lt
      obtain ⟨n, hn⟩ : ∃ n, 256 * y1.toNat + y2.toNat = n := ⟨_, rfl⟩
      have hbn : bodyN (b.drop k) = n := by
        unfold bodyN
        rw [List.getD_eq_getElem?_getD, List.getD_eq_getElem?_getD, List.getElem?_drop, List.getElem?_drop, List.getElem?_eq_getElem (by have := HMB.out; omega), List.getElem?_eq_getElem (by have := HMB.out; omega), Option.getD_some, Option.getD_some, ← hy1, ← hy2, hn]
      have hk1 : (k : Int) + 1 < (m : Int) := by omega
      have hk2 : (k : Int) + 2 < (m : Int) := by omega
      have hw1 : IntKind.i64.wrap ((k : Int) + 1) = (k : Int) + 1 := by simp [IntKind.wrap, IntKind.bits, IntKind.signed]; omega
      have hw2 : IntKind.i64.wrap ((k : Int) + 2) = (k : Int) + 2 := by simp [IntKind.wrap, IntKind.bits, IntKind.signed]; omega
      have hw3 : IntKind.i64.wrap (256 * (y1.toNat : Int)) = 256 * (y1.toNat : Int) := by simp [IntKind.wrap, IntKind.bits, IntKind.signed]; omega
      have hw4 : IntKind.i64.wrap (256 * (y1.toNat : Int) + (y2.toNat : Int)) = (n : Int) := by rw [show 256 * (y1.toNat : Int) + (y2.toNat : Int) = (n : Int) by omega]; simp [IntKind.wrap, IntKind.bits, IntKind.signed]; omega
      have hn6 : n ≤ 65535 := by omega
      clear hy1 hy2 hn
      generalize y1.toNat = z1 at *
      generalize y2.toNat = z2 at *
      have hk1b : (k : Int) + 1 < (m : Int) := hk1
      by_cases h5 : 512 < n
      · have hs := scan_long hne (by rw [hd0]; exact fun h => h4i (by omega)) (by rw [HDL.out]; omega) (by rw [hbn]; exact h5)
        have HS := Lib.hid (show scan b = (acc, [], 23) by rw [HSC.out, hs]; simp)
        have h5i : (512 : Int) < (n : Int) := by omega
        clear hs hne hd0 hbn
        generalize y.toNat = y0 at *
        go_wp2
        go_quiet (fail)
        go_wp2
        go_ret3
        refine ⟨_, acc, ?_, OF0.out.none_ (Dr.made ⟨nq, rfl⟩ none), fun e => ?_, grown_trans' HG.out (Dr.made ⟨nq, rfl⟩ none)⟩
        · rw [HS.out]; rfl
        · rw [HS.out] at e; exact absurd e (by simp)
      have h5i : ¬ (512 : Int) < (n : Int) := by omega
      have hw5 : IntKind.i64.wrap ((k : Int) + 3 + (n : Int)) = (k : Int) + 3 + (n : Int) := by simp [IntKind.wrap, IntKind.bits, IntKind.signed]; omega
      by_cases h6 : m < k + 3 + n
      · have hs := scan_inc (b := b.drop k) (.inr ⟨by rw [hd0]; omega, .inr ⟨by rw [hbn]; omega, by rw [HDL.out, hbn]; omega⟩⟩)
        have HS := Lib.hid (show scan b = (acc, b.drop k, 0) by rw [HSC.out, hs]; simp)
        have h6i : (m : Int) < (k : Int) + 3 + (n : Int) := by omega
        have hwm : IntKind.i64.wrap ((m : Int) - (k : Int)) = (m : Int) - (k : Int) := by simp [IntKind.wrap, IntKind.bits, IntKind.signed]; omega
        clear hs hne hd0 hbn
        generalize y.toNat = y0 at *
        go_wp2
        go_quiet (fail)
        go_wp2
        go_ret3
        refine ⟨_, acc, ?_, OF0.out.none_ (Dr.made ⟨nq, rfl⟩ none), fun e => by rw [HS.out], grown_trans' HG.out (Dr.made ⟨nq, rfl⟩ none)⟩
        rw [HS.out]
        show _ = Ending.returned (Value.tuple #[_, .int .i64 ((b.drop k).length : Int), _])
        rw [HDLI.out]
        rfl
      have h6i : ¬ (m : Int) < (k : Int) + 3 + (n : Int) := by omega
      obtain ⟨body, hbo⟩ : ∃ x, x = ((b.drop k).drop 3).take n := ⟨_, rfl⟩
      have HBL := Lib.hid (show body.length = n by rw [hbo, List.length_take, List.length_drop, HDL.out]; omega)
      have hcut := (HR.out.cut (k := k + 3) (by rw [HMB.out]; omega)).head n
      obtain ⟨qa, hqa⟩ : ∃ qa, (if cap = k + 3 then some (⟨bb, off, none⟩ : Addr) else some ⟨bb, off + (k + 3), none⟩) = some qa := by split <;> exact ⟨_, rfl⟩
      have HBD0 := Lib.hid (show RB w w.heap.size (some qa) body (cap - (k + 3)) by
        rw [show (if cap = k + 3 then some (⟨bb, off, none⟩ : Addr) else (some (⟨bb, off, none⟩ : Addr)).map (·.add (k + 3))) = some qa by rw [← hqa, Option.map_some, Addr.add_lit]] at hcut
        rw [hbo, List.drop_drop]
        exact hcut)
      have hs := scan_whole (b := b.drop k) (by rw [hd0]; exact fun h => h4i (by omega)) (by rw [hbn]; exact h5) (by rw [hbn, HDL.out]; omega)
      have HS := Lib.hid (show scan b = (acc ++ [((y.toNat : Int), body)] ++ (scan (b.drop (k + (3 + n)))).1, (scan (b.drop (k + (3 + n)))).2) by rw [HSC.out, hs, hbn, hd0, hbo, List.drop_drop (i := 3 + n)]; simp)
      have HN := Lib.hid (show n ≤ 512 from by omega)
      have hw6 : IntKind.i64.wrap (3 + (n : Int)) = 3 + (n : Int) := by simp [IntKind.wrap, IntKind.bits, IntKind.signed]; omega
      have hw7 : IntKind.i64.wrap ((k : Int) + (3 + (n : Int))) = (k : Int) + (3 + (n : Int)) := by simp [IntKind.wrap, IntKind.bits, IntKind.signed]; omega
      have hwy : IntKind.i64.wrap (y.toNat : Int) = (y.toNat : Int) := by simp [IntKind.wrap, IntKind.bits, IntKind.signed]; omega
      have HBB := Lib.hid (show bb < w.heap.size by have := HBD0.out.blk; obtain ⟨b', off', h1, h2, -⟩ := HR.out.open_ (by have := HMB.out; omega); injection h1 with h1; injection h1 with h1; omega)
      clear hs hne hd0 hbn hbo hcut
      generalize y.toNat = y0 at *
      have hci1 : (k : Int) + 3 + (n : Int) ≤ (cap : Int) := by omega
      have hci2 : (k : Int) + 3 ≤ (k : Int) + 3 + (n : Int) := by omega
      go_wp2
      go_quiet (fail)
      go_wp2
      obtain ⟨wd, hwd⟩ : ∃ x, (wr.drewN nq).drew = x := ⟨_, rfl⟩
      have GD := Lib.hid (show wr.grownBy wd none by rw [← hwd]; exact grown_drew (Dr.made ⟨nq, rfl⟩ none))
      have HSW := Lib.hid (show w.heap.size ≤ wd.heap.size from Nat.le_trans HG.out.size GD.out.size)
      have OF := Lib.hid (OF0.out.none_ GD.out)
      have HBD := Lib.hid (HBD0.out.below (below_rw (grown_trans' HG.out GD.out) (Nat.le_refl _)))
      have QY := Lib.hid (fun wx (hS : Below w.heap.size wd wx) => (hS.cell (p := ⟨bb, off + k, none⟩) HBB.out).trans (keepC GD.out q0))
      have HSL := Lib.hid (fun wx => show (Instr.sliceAt 22 (.slice (some ⟨bb, off, none⟩) m cap) (some (.int .i64 ((k : Int) + 3))) (some (.int .i64 ((k : Int) + 3 + (n : Int)))) none).run Try.prog wx = .ok (.slice (some qa) n (cap - (k + 3))) wx by
        rw [run_cutB (l := k + 3) (h := k + 3 + n) (by omega) (by omega) (by omega) (by omega), show (if cap = k + 3 then some (⟨bb, off, none⟩ : Addr) else (some (⟨bb, off, none⟩ : Addr)).map (·.add (k + 3))) = some qa by rw [← hqa, Option.map_some, Addr.add_lit], show k + 3 + n - (k + 3) = n by omega])
      refine helds_begin (fun x => Below w.heap.size wd x) (by kernel_rfl) (by rw [hwd]; exact Below.refl _ _) (fun hb0 => ?_)
      try rw [hwd] at hb0
      try rw [hwd]
      refine helds_take (i := 0) (d := some 48) (v := ?vrr_1) (by assumption) rfl rfl (by kernel_rfl) (fun _ _ _ h => h) ?yrr_1 ?_; case yrr_1 => (refine Or.inl ⟨rfl, fun wx hS => ?_⟩; go_simp; try with_reducible rfl)
      try simp only [Act.put, List.setIfInBounds_toArray, List.set_cons_zero, List.set_cons_succ]
      refine helds_take (i := 1) (d := some 49) (v := ?vrr_2) (by assumption) rfl rfl (by kernel_rfl) (fun _ _ _ h => h) ?yrr_2 ?_; case yrr_2 => (refine Or.inl ⟨rfl, fun wx hS => ?_⟩; go_simp; try with_reducible rfl)
      try simp only [Act.put, List.setIfInBounds_toArray, List.set_cons_zero, List.set_cons_succ]
      refine helds_take (i := 2) (d := some 50) (v := ?vrr_3) (by assumption) rfl rfl (by kernel_rfl) (fun _ _ _ h => h) ?yrr_3 ?_; case yrr_3 => (refine Or.inl ⟨rfl, fun wx hS => ?_⟩; go_simp; try with_reducible rfl)
      try simp only [Act.put, List.setIfInBounds_toArray, List.set_cons_zero, List.set_cons_succ]
      refine helds_take (i := 3) (d := some 51) (v := ?vrr_4) (by assumption) rfl rfl (by kernel_rfl) (fun _ _ _ h => h) ?yrr_4 ?_; case yrr_4 => (refine Or.inl ⟨rfl, fun wx hS => ?_⟩; go_simp; try with_reducible rfl)
      try simp only [Act.put, List.setIfInBounds_toArray, List.set_cons_zero, List.set_cons_succ]
      refine helds_take (i := 4) (d := some 52) (v := _) (by assumption) rfl rfl (by kernel_rfl) (fun _ _ _ h => h) (yields_cell1 (fun w => by kernel_rfl) (.tmp 51) rfl rfl QY.out rfl) ?_
      try simp only [Act.put, List.setIfInBounds_toArray, List.set_cons_zero, List.set_cons_succ]
      refine helds_take (i := 5) (d := some 53) (v := ?vrr_6) (by assumption) rfl rfl (by kernel_rfl) (fun _ _ _ h => h) ?yrr_6 ?_; case yrr_6 => (refine Or.inl ⟨rfl, fun wx hS => ?_⟩; go_simp; try with_reducible rfl)
      try simp only [Act.put, List.setIfInBounds_toArray, List.set_cons_zero, List.set_cons_succ]
      refine helds_take (i := 7) (d := some 55) (v := ?vrr_7) (by assumption) rfl rfl (by kernel_rfl) (fun _ _ _ h => h) ?yrr_7 ?_; case yrr_7 => (refine Or.inl ⟨rfl, fun wx hS => ?_⟩; go_simp; try with_reducible rfl)
      try simp only [Act.put, List.setIfInBounds_toArray, List.set_cons_zero, List.set_cons_succ]
      refine helds_take (i := 8) (d := some 56) (v := ?vrr_8) (by assumption) rfl rfl (by kernel_rfl) (fun _ _ _ h => h) ?yrr_8 ?_; case yrr_8 => (refine Or.inl ⟨rfl, fun wx hS => ?_⟩; go_simp; try with_reducible rfl)
      try simp only [Act.put, List.setIfInBounds_toArray, List.set_cons_zero, List.set_cons_succ]
      refine helds_take (i := 9) (d := some 57) (v := ?vrr_9) (by assumption) rfl rfl (by kernel_rfl) (fun _ _ _ h => h) ?yrr_9 ?_; case yrr_9 => (refine Or.inl ⟨rfl, fun wx hS => ?_⟩; go_simp; try with_reducible rfl)
      try simp only [Act.put, List.setIfInBounds_toArray, List.set_cons_zero, List.set_cons_succ]
      refine helds_take (i := 10) (d := some 58) (v := ?vrr_10) (by assumption) rfl rfl (by kernel_rfl) (fun _ _ _ h => h) ?yrr_10 ?_; case yrr_10 => (refine Or.inl ⟨rfl, fun wx hS => ?_⟩; go_simp; try with_reducible rfl)
      try simp only [Act.put, List.setIfInBounds_toArray, List.set_cons_zero, List.set_cons_succ]
      refine helds_take (i := 11) (d := some 59) (v := ?vrr_11) (by assumption) rfl rfl (by kernel_rfl) (fun _ _ _ h => h) ?yrr_11 ?_; case yrr_11 => (refine Or.inl ⟨rfl, fun wx hS => ?_⟩; go_simp; try with_reducible rfl)
      try simp only [Act.put, List.setIfInBounds_toArray, List.set_cons_zero, List.set_cons_succ]
      refine helds_take (i := 12) (d := some 60) (v := ?vrr_12) (by assumption) rfl rfl (by kernel_rfl) (fun _ _ _ h => h) ?yrr_12 ?_; case yrr_12 => (refine Or.inl ⟨rfl, fun wx hS => ?_⟩; go_simp; try with_reducible rfl)
      try simp only [Act.put, List.setIfInBounds_toArray, List.set_cons_zero, List.set_cons_succ]
      refine helds_take (i := 13) (d := some 61) (v := ?vrr_13) (by assumption) rfl rfl (by kernel_rfl) (fun _ _ _ h => h) ?yrr_13 ?_; case yrr_13 => (refine Or.inl ⟨rfl, fun wx hS => ?_⟩; go_simp; try with_reducible rfl)
      try simp only [Act.put, List.setIfInBounds_toArray, List.set_cons_zero, List.set_cons_succ]
      refine helds_take (i := 14) (d := some 62) (v := _) (by assumption) rfl rfl (by kernel_rfl) (fun _ _ _ h => h) (yields_sliceS (v := .slice (some qa) n (cap - (k + 3))) (.tmp 55) (.tmp 57) (.tmp 61) rfl rfl rfl rfl rfl HSL.out) ?_
      try simp only [Act.put, List.setIfInBounds_toArray, List.set_cons_zero, List.set_cons_succ]
      refine helds_one (i := 6) rfl (by kernel_rfl) rfl (fun K hK => ?_)
      refine wp_lit0D (d := some 54) (e := 5) rfl rfl Try.underlying22 byteInfo ?_
      have hb5 : Below w.heap.size wd (wd.alloc (.cells #[] 5)) := (Below.refl _ _).alloc HSW.out _
      have N5 := Lib.hid (OwnB.new0 wd w.heap.size 5 HSW.out)
      have F5 := Lib.hid (OF.out.none_ (grown_alloc wd (.cells #[] 5) none))
      have G5 := Lib.hid (grown_alloc wd (.cells #[] 5) none)
      refine hK.out _ _ (by assumption) (fun _ => ?_)
      clear hK K
      try simp only [Act.put, List.setIfInBounds_toArray, List.set_cons_zero, List.set_cons_succ]
      refine helds_one (i := 15) rfl (by kernel_rfl) rfl (fun K hK => ?_)
      refine wp_appB (d := some 63) byteT rfl (.tmp 54) (.tmp 62) rfl N5.out (HBD.out.below hb5) rfl (by rw [HBL.out]; rfl) (by rw [HBL.out]; have := HN.out; simp; omega) (by have := HSW.out; have := G5.out.size; omega) ?_
      intro v6 w6 hown6 hg6 hat6
      obtain ⟨A6, c6, hv6, -, -⟩ := hown6.shape
      rw [List.nil_append, HBL.out] at hv6
      subst hv6
      rw [List.nil_append] at hown6
      have hb6 : Below w.heap.size wd w6 := hb5.grown hg6 (Nat.le_trans HSW.out G5.out.size) (fun k hk => by simp [Value.ownBlock] at hk; have := HSW.out; omega)
      have O6 := Lib.hid hown6
      have G6 := Lib.hid (grown_new G5.out hg6 (Nat.le_refl _))
      have F6 := Lib.hid (OF.out.none_ G6.out)
      clear hown6 hg6 hat6
      refine hK.out _ _ (by assumption) (fun _ => ?_)
      clear hK K
      try simp only [Act.put, List.setIfInBounds_toArray, List.set_cons_zero, List.set_cons_succ]
      refine helds_take (i := 16) (d := some 64) (v := ?vrr_15) (by assumption) rfl rfl (by kernel_rfl) (fun _ _ _ h => h) ?yrr_15 ?_; case yrr_15 => (refine Or.inl ⟨rfl, fun wx hS => ?_⟩; go_simp; try with_reducible rfl)
      try simp only [Act.put, List.setIfInBounds_toArray, List.set_cons_zero, List.set_cons_succ]
      refine helds_one (i := 17) rfl (by kernel_rfl) rfl (fun K hK => ?_)
      refine wp_lit1D (d := some 65) (e := 24) (zs := [.int .i64 0, .slice none 0 0]) (p := [.int .i64 (y0 : Int), .slice A6 n c6]) rfl rfl Try.underlying33 aggF.hi zeroF rfl (by omega) (by omega) rfl ?_
      have hb7 : Below w.heap.size wd (w6.alloc (.cells #[.int .i64 (y0 : Int), .slice A6 n c6] 24)) := hb6.alloc (Nat.le_trans HSW.out G6.out.size) _
      have N7 := Lib.hid (heap_alloc_new w6 (.cells #[.int .i64 (y0 : Int), .slice A6 n c6] 24))
      have G7 := Lib.hid (grown_trans' G6.out (grown_alloc w6 (.cells #[.int .i64 (y0 : Int), .slice A6 n c6] 24) none))
      have F7 := Lib.hid (OF.out.none_ G7.out)
      have O7 := Lib.hid (OwnB.none_ O6.out (grown_alloc w6 (.cells #[.int .i64 (y0 : Int), .slice A6 n c6] 24) none))
      refine hK.out _ _ (by assumption) (fun _ => ?_)
      clear hK K
      try simp only [Act.put, List.setIfInBounds_toArray, List.set_cons_zero, List.set_cons_succ]
      refine helds_one (i := 18) rfl (by kernel_rfl) rfl (fun K hK => ?_)
      refine wp_appFD (d := some 66) (f := ((y0 : Int), body)) rfl (.tmp 48) (.tmp 65) rfl F7.out O7.out (fun _ _ => trivial) (ad := ⟨w6.heap.size, 0, none⟩) (c := 1) (cell_of_row _ _ _ _ _ (0, 0) N7.out) (cell_of_row _ _ _ _ _ (0, 0) N7.out) rfl rfl (by have := HAC.out; omega) (Nat.le_trans HSW.out G7.out.size) ?_
      intro v8 w8 o8 g8 a8
      have hb8 : Below w.heap.size wd w8 := hb7.grown g8 (Nat.le_trans HSW.out G7.out.size) (fun k hk => (F7.out.lt k hk).1)
      have O8 := Lib.hid o8
      clear o8 g8 a8
      refine hK.out _ _ (by assumption) (fun _ => ?_)
      clear hK K
      try simp only [Act.put, List.setIfInBounds_toArray, List.set_cons_zero, List.set_cons_succ]
      refine helds_take (i := 19) (d := some 5) (v := ?vrr_16) (by assumption) rfl rfl (by kernel_rfl) (fun _ _ _ h => h) ?yrr_16 ?_; case yrr_16 => (refine Or.inl ⟨rfl, fun wx hS => ?_⟩; go_simp; try with_reducible rfl)
      try simp only [Act.put, List.setIfInBounds_toArray, List.set_cons_zero, List.set_cons_succ]
      refine held_end (by kernel_rfl) ?_ _
      skip
      have G8 := Lib.hid (show w.grownBy w8 none from ⟨hb8.os.trans (grown_trans' HG.out GD.out).os, hb8.tape.trans (grown_trans' HG.out GD.out).tape, hb8.output.trans (grown_trans' HG.out GD.out).output, Nat.le_trans HSW.out hb8.size, fun i hi hne => (hb8.block i hi).trans ((grown_trans' HG.out GD.out).block i hi hne)⟩)
      clear hb0 hb5 hb6 hb7 hb8
      go_wp2
      go_roundw
      case rel => exact ⟨k + (3 + n), _, by go_num, by rw [HMB.out]; omega, O8.out, by rw [List.length_append]; have := HAC.out; simp; omega, G8.out, HS.out⟩
      case measure => simp [intOf]; omega
    · obtain rfl : k = m := by omega
      have hd : b.drop k = [] := List.drop_eq_nil_of_le (by have := HMB.out; omega)
      have HS := Lib.hid (show scan b = (acc, [], 0) by rw [HSC.out, hd]; simp [scan_nil])
      clear hd
      go_wp2
      go_ret3
      refine ⟨_, acc, ?_, OF0.out, fun e => by rw [HS.out], HG.out⟩
      rw [HS.out]
      first | rfl | (simp; done)
end Go.Proofs.Ytajfaplaaafjiaa
