/- The walk of Text. -/
import Derived.Test.YtedffhoekmgdpaaDoorSa
namespace Go.Proofs.YtedffhoekmgdpaaDoor
open Go.RowKit

theorem yields_cell1 {P : Program} {ops : Array Oper} {S : World → Prop} {oi : Oper} {a : Act} {ty : TypeId} (hag : ∀ w, (isAgg ty).run P w = .ok false w) (x : Operand) (ho : oi.op = .load ty x) (hw : Region.wanted oi (yielded ops a.tmps) = true)
    {ad : Addr} {v : Value} (h : ∀ wx, S wx → wx.cell? ad = some v) (hx : a.eval x = .pointer (some ad)) : YieldsIf P ops S oi v a := by
  refine .inl ⟨hw, fun wx hS => ?_⟩
  have hc := h wx hS
  unfold execOp
  simp only [ho, hx]
  simp [go_sem, hag, hc]
theorem bytes_eq {a : ByteArray} {l : List UInt8} (h : a.data.toList = l) : a = ⟨l.toArray⟩ := by
  subst h
  simp
theorem join_n (bk o c n : Nat) (xs : List ByteArray) (J : List UInt8) (w : World) (hn : xs.length = n) (hJ : Lib.join (dl xs) [47] = J) (hcells : ∀ (j : Nat) x, xs[j]? = some x → w.cell? ⟨bk, o + j, none⟩ = some (.string x)) (hbk : bk < w.heap.size) (hN : n ≤ 1000000) (hcap : n ≤ c) (hlen : J.length ≤ 67) :
    Calls Tryd.prog 18 #[.slice (some ⟨bk, o, none⟩) n c, .string ⟨#[47]⟩] w fun e w' => e = .returned (.string ⟨J.toArray⟩) ∧ Below w.heap.size w w' := by
  subst hn hJ
  exact sh_strings_Join bk o c xs ⟨#[47]⟩ w hcells hbk (by omega) hcap (by have : (Lib.join (xs.map (·.data.toList)) (ByteArray.mk #[47]).data.toList).length ≤ 67 := hlen; omega)
set_option maxHeartbeats 400000 in
theorem text_any (A : Option Addr) (ls : List ByteArray) (cap : Nat) (r : ByteArray) (w : World) (h : RS w w.heap.size A ls cap) (hb : ∀ s ∈ ls, s.size ≤ 1000000) (hr : r.size ≤ 1000000) (n : Nat) (hn : ls.length = n) (hnb : n ≤ 1000000) :
    Calls Tryd.prog 10 #[.agg #[.slice A n cap, .string r]] w fun e w' => e = .returned (if nameOk (dl ls) r.data.toList = true then .tuple #[.string ⟨(textOf (dl ls) r.data.toList).toArray⟩, .int .i64 0] else .tuple #[.string ⟨#[]⟩, .int .i64 30]) ∧ Below w.heap.size w w' := by
  have hbe := (Below.refl w.heap.size w).alloc (Nat.le_refl _) (.cells #[.slice A n cap, .string r] 24)
  have HBE := Lib.hid hbe
  have H := Lib.hid h
  have HB := Lib.hid hb
  have HR := Lib.hid hr
  have HN := Lib.hid hn
  cases hok : nameOk (dl ls) r.data.toList with
  | false =>
    have HOK := Lib.hid hok
    rw [if_neg (by simp)]
    clear hbe h hb hr hn hok
    go_enter Tryd.func10, Tryd.ntmps10
    go_wp2_with (go_at_call 12; refine (check_any A ls cap r _ ((H.out.alloc (Nat.le_refl _) _).more HBE.out.size) HB.out HR.out n HN.out).mono ?_; rintro e w3 ⟨rfl, hb3⟩; rw [HOK.out, show errOf false = 30 from rfl]; have HB3 := Lib.hid (HBE.out.trans (hb3.mono HBE.out.size)); clear hb3)
    go_ret2
    exact ⟨rfl, HB3.out⟩
  | true =>
    have hp := (nameOk_iff.1 hok).1
    rw [dl_length, hn] at hp
    obtain ⟨bk, off, rfl, hbk, hcell⟩ := h.open_ (by omega)
    have HCAP := Lib.hid (show n ≤ cap by rw [← hn]; exact h.1)
    have HCELL := Lib.hid hcell
    have HBKL := Lib.hid hbk
    obtain ⟨T, hT⟩ : ∃ T, T = textOf (dl ls) r.data.toList := ⟨_, rfl⟩
    obtain ⟨J, hJ⟩ : ∃ J, J = Lib.join (dl ls) [47] := ⟨_, rfl⟩
    have HJ := Lib.hid hJ.symm
    have HJL := Lib.hid (show J.length ≤ 67 by have := text_len hok; rw [textOf, List.length_append, List.length_append, ← hJ] at this; omega)
    have HTX := Lib.hid (show (ByteArray.mk J.toArray ++ ⟨#[64]⟩ ++ r) = ⟨T.toArray⟩ from bytes_eq (by rw [hT, textOf, hJ]; simp))
    have HOK := Lib.hid hok
    rw [if_pos rfl, ← hT]
    clear hbe h hb hr hn hok hcell hT hJ hbk
    go_enter Tryd.func10, Tryd.ntmps10
    go_wp2_with (go_at_call 12; refine (check_any _ ls cap r _ ((H.out.alloc (Nat.le_refl _) _).more HBE.out.size) HB.out HR.out n HN.out).mono ?_; rintro e w3 ⟨rfl, hb3⟩; rw [HOK.out, show errOf true = 0 from rfl]; have HB3 := Lib.hid (HBE.out.trans (hb3.mono HBE.out.size)); have HBX := Lib.hid (show w3.heap[w.heap.size]? = some (.cells #[.slice (some ⟨bk, off, none⟩) n cap, .string r] 24) from (hb3.block _ (by rw [World.size_alloc]; omega)).trans (heap_alloc_new w _)); clear hb3)
    have HLT := Lib.hid (show w.heap.size < w3.heap.size from (Array.getElem?_eq_some_iff.1 HBX.out).1)
    have q1 : ∀ wx, Below w3.drew.heap.size w3.drew wx → wx.cell? ⟨w.heap.size, 0, none⟩ = some (.slice (some ⟨bk, off, none⟩) n cap) := fun wx hx => (hx.cell HLT.out).trans (by rw [cell_of_row w3.drew w.heap.size 0 _ _ (0, 0) HBX.out]; rfl)
    have q2 : ∀ wx, Below w3.drew.heap.size w3.drew wx → wx.cell? ⟨w.heap.size, 1, none⟩ = some (.string r) := fun wx hx => (hx.cell HLT.out).trans (by rw [cell_of_row w3.drew w.heap.size 1 _ _ (0, 0) HBX.out]; rfl)
    have HCC := Lib.hid (show ∀ (j : Nat) x, ls[j]? = some x → w3.drew.cell? ⟨bk, off + j, none⟩ = some (.string x) from fun j x hx => by
      have hj := (List.getElem?_eq_some_iff.1 hx).1
      have e := (List.getElem?_eq_some_iff.1 hx).2
      rw [← e]
      exact (HB3.out.cell (show (⟨bk, off + j, none⟩ : Addr).block < w.heap.size from HBKL.out)).trans (HCELL.out j hj))
    have HBK := Lib.hid (show bk < w3.drew.heap.size from Nat.lt_of_lt_of_le HBKL.out HB3.out.size)
    have hcat1 : ¬ 9223372036854775807 < J.length + 1 := by have := HJL.out; omega
    have hcat2 : ¬ 9223372036854775807 < J.length + 1 + r.size := by have := HJL.out; have := HR.out; omega
    refine heldb_begin w3.drew.heap.size (by kernel_rfl) (fun hS1 => ?_)
    refine heldb_take (i := 0) (d := some 10) (v := ?vq4x1) (by assumption) rfl rfl (by kernel_rfl) (fun _ _ _ h => h) ?yq4x1 ?_; case yq4x1 => (refine Or.inl ⟨rfl, fun wx hS => ?_⟩; go_simp; try with_reducible rfl)
    try simp only [Act.put, List.setIfInBounds_toArray, List.set_cons_zero, List.set_cons_succ]
    refine heldb_take (i := 1) (d := some 11) (v := _) (by assumption) rfl rfl (by kernel_rfl) (fun _ _ _ h => h) (yields_cell1 (fun _ => by kernel_rfl) (.tmp 10) rfl rfl q1 rfl) ?_
    try simp only [Act.put, List.setIfInBounds_toArray, List.set_cons_zero, List.set_cons_succ]
    refine heldb_take (i := 4) (d := some 14) (v := ?vq4x3) (by assumption) rfl rfl (by kernel_rfl) (fun _ _ _ h => h) ?yq4x3 ?_; case yq4x3 => (refine Or.inl ⟨rfl, fun wx hS => ?_⟩; go_simp; try with_reducible rfl)
    try simp only [Act.put, List.setIfInBounds_toArray, List.set_cons_zero, List.set_cons_succ]
    refine heldb_take (i := 5) (d := some 15) (v := _) (by assumption) rfl rfl (by kernel_rfl) (fun _ _ _ h => h) (yields_cell1 (fun _ => by kernel_rfl) (.tmp 14) rfl rfl q2 rfl) ?_
    try simp only [Act.put, List.setIfInBounds_toArray, List.set_cons_zero, List.set_cons_succ]
    refine heldb_one (i := 2) rfl (by kernel_rfl) rfl (fun K hK => ?_)
    go_simp
    refine (join_n bk off cap n ls J _ HN.out HJ.out HCC.out HBK.out hnb HCAP.out HJL.out).mono ?_
    rintro e w4 ⟨rfl, hb4⟩
    have HB4 := Lib.hid hb4
    refine hK.out _ _ hb4 (fun hS4 => ?_)
    clear hK K hb4
    try simp only [Act.put, List.setIfInBounds_toArray, List.set_cons_zero, List.set_cons_succ]
    refine heldb_take (i := 3) (d := some 13) (v := ?vq4x5) (by assumption) rfl rfl (by kernel_rfl) (fun _ _ _ h => h) ?yq4x5 ?_; case yq4x5 => (refine Or.inl ⟨rfl, fun wx hS => ?_⟩; go_simp; try with_reducible rfl)
    try simp only [Act.put, List.setIfInBounds_toArray, List.set_cons_zero, List.set_cons_succ]
    refine heldb_take (i := 6) (d := some 16) (v := ?vq4x6) (by assumption) rfl rfl (by kernel_rfl) (fun _ _ _ h => h) ?yq4x6 ?_; case yq4x6 => (refine Or.inl ⟨rfl, fun wx hS => ?_⟩; go_simp; try with_reducible rfl)
    try simp only [Act.put, List.setIfInBounds_toArray, List.set_cons_zero, List.set_cons_succ]
    refine heldb_take (i := 7) (d := some 2) (v := ?vq4x7) (by assumption) rfl rfl (by kernel_rfl) (fun _ _ _ h => h) ?yq4x7 ?_; case yq4x7 => (refine Or.inl ⟨rfl, fun wx hS => ?_⟩; go_simp; try with_reducible rfl)
    try simp only [Act.put, List.setIfInBounds_toArray, List.set_cons_zero, List.set_cons_succ]
    refine heldb_take (i := 8) (d := some 3) (v := ?vq4x8) (by assumption) rfl rfl (by kernel_rfl) (fun _ _ _ h => h) ?yq4x8 ?_; case yq4x8 => (refine Or.inl ⟨rfl, fun wx hS => ?_⟩; go_simp; try with_reducible rfl)
    try simp only [Act.put, List.setIfInBounds_toArray, List.set_cons_zero, List.set_cons_succ]
    refine held_end (by kernel_rfl) ?_ _
    go_wp2
    go_ret2
    exact ⟨by rw [HTX.out]; rfl, HB3.out.trans ((below_undrew HB4.out).mono HB3.out.size)⟩
end Go.Proofs.YtedffhoekmgdpaaDoor
