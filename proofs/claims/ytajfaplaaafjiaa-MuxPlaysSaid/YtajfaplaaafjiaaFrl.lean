/- What the frame of a law opens of frames, of texts that came in. -/
import Derived.Test.YtajfaplaaafjiaaFrj
import Derived.Deep.Slices
import Derived.Deep.Fields
import Derived.ProofKit
namespace Go.Proofs.Ytajfaplaaafjiaa
open Go.ChangeShapes Go.WideShapes Go.RowKit

theorem RB.of_cells {w : World} {x : Addr} {len cap : Nat} {zs : List Int} (hl : len ≤ cap) (hm : cap ≤ maxLen) (hz : len ≤ zs.length) (hc : ∀ i, i < zs.length → w.cell? (x.add i) = some (.int .u8 (zs.getD i 0))) (hw : ∀ n ∈ zs, (Lit.int .u8 n).wf = true) :
    ∃ l : List UInt8, l.length = len ∧ RB w w.heap.size (some x) l cap := by
  have hlen : ((zs.take len).map fun n => UInt8.ofNat n.toNat).length = len := by simp; omega
  refine ⟨(zs.take len).map fun n => UInt8.ofNat n.toNat, hlen, by omega, hm, .inr ⟨x, rfl, fun k u hu => ?_⟩⟩
  have hk : k < len := by rw [← hlen]; exact (List.getElem?_eq_some_iff.1 hu).1
  have hkz : k < zs.length := by omega
  have hcell := hc k hkz
  rw [List.getElem?_map, List.getElem?_take_of_lt hk, List.getElem?_eq_getElem hkz] at hu
  have hb : zs.getD k 0 = zs[k] := by simp [List.getD, List.getElem?_eq_getElem hkz]
  rw [hb] at hcell
  have hx := bounds_u8 (hw zs[k] (List.getElem_mem hkz))
  have hlt := World.block_lt_of_cell? w _ hcell
  rw [add_block] at hlt
  simp only [Option.map_some, Option.some.injEq] at hu
  subst hu
  refine ⟨hlt, hcell.trans ?_⟩
  congr 2
  exact u8_of (by omega)

section
variable {H : Type} {enc : TypeId × Value → H} {w : World} {base : Nat} {spare : Nat → Bool} {held : Bool}
theorem bytes_of_trod {fuel : Nat} {v : Value} {x : DataW H × List MemPlace}
    (h : DataW.trod enc Try.prog w base spare held fuel 22 [v] = some x) : ∃ V l c, v = .slice V l.length c ∧ RB w w.heap.size V l c := by
  rcases open_ints Try.underlying22 Try.underlying5 (by kernel_rfl) h with ⟨hcs, _⟩ | ⟨a, n, c, zs, hcs, _, hl, hm, hz, _, hcell, hwz⟩
  · simp only [List.cons.injEq, and_true] at hcs
    exact ⟨none, [], 0, hcs, RB.nil_ _ _⟩
  · simp only [List.cons.injEq, and_true] at hcs
    obtain ⟨l, hll, hr⟩ := RB.of_cells hl hm (by rw [hz]; split <;> omega) hcell hwz
    exact ⟨some a, l, c, by rw [hcs, hll], hr⟩

set_option maxRecDepth 100000 in
theorem frame_of_trod {fuel : Nat} {cs : List Value} {x : DataW H × List MemPlace}
    (h : DataW.trod enc Try.prog w base spare held fuel 24 cs = some x) : ∃ (f : Fr) (V : Option Addr) (c : Nat), cs = [.int .i64 f.1, .slice V f.2.length c] ∧ RB w w.heap.size V f.2 c ∧ -9223372036854775808 ≤ f.1 ∧ f.1 ≤ 9223372036854775807 := by
  obtain ⟨xs, n, _, _, hlen, hxl, hf⟩ := DataW.trod_struct Try.underlying24 h
  have hC : Try.prog.cellsOf 24 = 2 := by kernel_rfl
  have hCi : Try.prog.cellsOf 3 = 1 := by kernel_rfl
  have hCb : Try.prog.cellsOf 22 = 1 := by kernel_rfl
  rw [hC] at hlen
  match cs, hlen with
  | [c0, c1], _ =>
    match xs, hxl with
    | [y0, y1], _ =>
      have h0 := hf 0 _ rfl
      have h1 := hf 1 _ rfl
      change DataW.trod enc Try.prog w base spare held n 3 (List.take (Try.prog.cellsOf 3) (List.drop 0 [c0, c1])) = some y0 at h0
      change DataW.trod enc Try.prog w base spare held n 22 (List.take (Try.prog.cellsOf 22) (List.drop 1 [c0, c1])) = some y1 at h1
      rw [hCi] at h0
      rw [hCb] at h1
      simp only [List.drop_zero, List.drop_succ_cons, List.take_succ_cons, List.take_zero] at h0 h1
      obtain ⟨t, ht, _, hwf⟩ := DataW.trod_int Try.underlying3 h0
      obtain ⟨V, l, c, hv, hr⟩ := bytes_of_trod h1
      simp only [List.cons.injEq, and_true] at ht
      subst ht hv
      obtain ⟨b1, b2⟩ := bounds_i64 hwf
      exact ⟨(t, l), V, c, rfl, hr, b1, b2⟩

theorem RF.of_trod {A : Option Addr} {len cap : Nat} {d : DataW H} {p : List MemPlace} (h : DataW.Trod enc Try.prog w base spare held 33 (.slice A len cap) d p) :
    ∃ fs : List Fr, fs.length = len ∧ RF w w.heap.size A fs cap ∧ ∀ f ∈ fs, -9223372036854775808 ≤ f.1 ∧ f.1 ≤ 9223372036854775807 := by
  obtain ⟨fuel, hf⟩ := h
  rcases Go.Deep.open_slice Try.underlying33 hf with ⟨hcs, _⟩ | ⟨a, n, c, m, q, D, Pl, hcs, _, hl, hm, hmm, _, hx⟩
  · simp [Value.cells] at hcs
    obtain ⟨rfl, rfl, rfl⟩ := hcs
    exact ⟨[], rfl, RF.nil_ _ _, fun f hf => by cases hf⟩
  · simp [Value.cells] at hcs
    obtain ⟨rfl, rfl, rfl⟩ := hcs
    have hC : Try.prog.cellsOf 24 = 2 := by kernel_rfl
    have hml : len ≤ m := by rw [hmm]; split <;> omega
    obtain ⟨F, hF⟩ := Go.Deep.choose_lt (α := Fr) (n := len) (p := fun i f => (a.block < w.heap.size ∧ w.cell? (a.add (2 * i)) = some (.int .i64 f.1) ∧ ∃ V c, w.cell? (a.add (2 * i + 1)) = some (.slice V f.2.length c) ∧ RB w w.heap.size V f.2 c) ∧ -9223372036854775808 ≤ f.1 ∧ f.1 ≤ 9223372036854775807) (fun i hi => by
      obtain ⟨cs', h1, h2⟩ := hx i (by omega)
      obtain ⟨f, V, c, rfl, hr, b1, b2⟩ := frame_of_trod h2
      rw [hC] at h1
      obtain ⟨_, _, hat⟩ := World.cells?_some h1
      have e0 := hat 0 (by omega)
      have e1 := hat 1 (by omega)
      rw [add_add_] at e0 e1
      rw [Nat.mul_comm i 2] at e0 e1
      have hlt := World.block_lt_of_cell? w _ e0
      rw [add_block] at hlt
      exact ⟨f, ⟨hlt, e0, V, c, e1, hr⟩, b1, b2⟩)
    refine ⟨(List.range len).map F, by simp, ⟨by simp; omega, hm, .inr ⟨a, rfl, fun k f hf => ?_⟩⟩, fun f hf => ?_⟩
    · rw [List.getElem?_map] at hf
      obtain ⟨k', hk', rfl⟩ := Option.map_eq_some_iff.1 hf
      have hk := (List.getElem?_eq_some_iff.1 hk').1
      simp at hk
      rw [List.getElem?_range hk] at hk'
      injection hk' with hk'
      subst hk'
      exact (hF k hk).1
    · obtain ⟨k, hk, rfl⟩ := List.mem_map.1 hf
      exact (hF k (by simpa using hk)).2
set_option maxRecDepth 100000 in
theorem open_Frame {r : Reach} {b0 : Nat} {v : Value} {d : DataW H} {p : List MemPlace} (hv : Value.okWide Try.prog w r b0 24 v) (h : DataW.Trod enc Try.prog w base spare held 24 v d p) :
    ∃ (c : Int) (A : Option Addr) (l : List UInt8) (cap : Nat), v = .agg #[.int .i64 c, .slice A l.length cap] ∧ RB w w.heap.size A l cap ∧ I64 c := by
  obtain ⟨cs, rfl, _⟩ := okWide_struct Try.underlying24 hv
  obtain ⟨fuel, hf⟩ := h
  obtain ⟨f, V, c, hcs, hr, b1, b2⟩ := frame_of_trod hf
  have h2 : cs.toList = [.int .i64 f.1, .slice V f.2.length c] := hcs
  have e : cs = #[.int .i64 f.1, .slice V f.2.length c] := Array.ext' h2
  exact ⟨f.1, V, f.2, c, by rw [e], hr, ⟨b1, b2⟩⟩
end
end Go.Proofs.Ytajfaplaaafjiaa
