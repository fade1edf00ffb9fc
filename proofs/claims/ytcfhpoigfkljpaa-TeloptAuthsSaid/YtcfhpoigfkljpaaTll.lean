/- What the frame of a law opens of parts, of texts that came in. -/
import Derived.Test.YtcfhpoigfkljpaaTlb
import Derived.Deep.Slices
import Derived.Deep.Fields
import Derived.ProofKit
namespace Go.Proofs.Ytcfhpoigfkljpaa
open Go.ChangeShapes Go.WideShapes Go.RowKit

/-- A number that fits. -/
def I64 (c : Int) : Prop := -9223372036854775808 ≤ c ∧ c ≤ 9223372036854775807
theorem RB.of_cells {w : World} {x : Addr} {len cap : Nat} {zs : List Int} (hl : len ≤ cap) (hm : cap ≤ maxLen) (hz : len ≤ zs.length) (hc : ∀ i, i < zs.length → w.cell? (x.add i) = some (.int .u8 (zs.getD i 0))) (hw : ∀ n ∈ zs, (Lit.int .u8 n).wf = true) :
    ∃ l : List UInt8, l.length = len ∧ RB w w.heap.size (some x) l cap := by
  have hlen : ((zs.take len).map fun n => UInt8.ofNat n.toNat).length = len := by simp; omega
  refine ⟨(zs.take len).map fun n => UInt8.ofNat n.toNat, hlen, by omega, hm, .inr ⟨x, rfl, fun k u hu => ?_⟩⟩
  have hk : k < len := by rw [← hlen]; exact (List.getElem?_eq_some_iff.1 hu).1
  have hkz : k < zs.length := by omega
  have hcell := hc k hkz
  rw [List.getElem?_map, List.getElem?_take_of_lt hk, List.getElem?_eq_getElem hkz] at hu
  have hb : zs.getD k 0 = zs[k] := by simp [List.getD, List.getElem?_eq_getElem hkz]
  rw [hb] at hcell
  have hx := bounds_u8 (hw zs[k] (List.getElem_mem hkz))
  have hlt := World.block_lt_of_cell? w _ hcell
  rw [add_block] at hlt
  simp only [Option.map_some, Option.some.injEq] at hu
  subst hu
  refine ⟨hlt, hcell.trans ?_⟩
  congr 2
  exact u8_of (by omega)
/-- Texts that are read. -/
def RT (w : World) (B : Nat) (A : Option Addr) (ls : List (List UInt8)) (cap : Nat) : Prop :=
  ls.length ≤ cap ∧ cap ≤ maxLen ∧ ((A = none ∧ cap = 0) ∨ ∃ a, A = some a ∧ ∀ k l, ls[k]? = some l → a.block < B ∧ ∃ V c, w.cell? (a.add k) = some (.slice V l.length c) ∧ RB w B V l c)
theorem RT.nil_ (w : World) (B : Nat) : RT w B none [] 0 := ⟨Nat.le_refl _, Nat.zero_le _, .inl ⟨rfl, rfl⟩⟩
theorem RT.open_ {w : World} {B : Nat} {A : Option Addr} {ls : List (List UInt8)} {cap : Nat} (h : RT w B A ls cap) (hp : 0 < ls.length) :
    ∃ b off, A = some ⟨b, off, none⟩ ∧ b < B ∧ ∀ k l, ls[k]? = some l → ∃ V c, w.cell? ⟨b, off + k, none⟩ = some (.slice V l.length c) ∧ RB w B V l c := by
  rcases h.2.2 with ⟨_, h0⟩ | ⟨⟨b, off, s⟩, hA, hc⟩
  · have := h.1; omega
  · obtain ⟨hb, V, c, h0, _⟩ := hc 0 _ (List.getElem?_eq_getElem hp)
    have hs : s = none := by simpa [Addr.add] using World.cell?_spot h0
    subst hs
    refine ⟨b, off, hA, hb, fun k l hl => ?_⟩
    have := (hc k l hl).2
    rw [Addr.add_lit] at this
    exact this

section
variable {H : Type} {enc : TypeId × Value → H} {w : World} {base : Nat} {spare : Nat → Bool} {held : Bool}
theorem bytes_of_trod {fuel : Nat} {v : Value} {x : DataW H × List MemPlace}
    (h : DataW.trod enc Try.prog w base spare held fuel 22 [v] = some x) : ∃ V l c, v = .slice V l.length c ∧ RB w w.heap.size V l c := by
  rcases open_ints Try.underlying22 Try.underlying5 (by kernel_rfl) h with ⟨hcs, _⟩ | ⟨a, n, c, zs, hcs, _, hl, hm, hz, _, hcell, hwz⟩
  · simp only [List.cons.injEq, and_true] at hcs
    exact ⟨none, [], 0, hcs, RB.nil_ _ _⟩
  · simp only [List.cons.injEq, and_true] at hcs
    obtain ⟨l, hll, hr⟩ := RB.of_cells hl hm (by rw [hz]; split <;> omega) hcell hwz
    exact ⟨some a, l, c, by rw [hcs, hll], hr⟩
theorem texts_of_trod {A : Option Addr} {len cap : Nat} {d : DataW H} {p : List MemPlace} (h : DataW.Trod enc Try.prog w base spare held 38 (.slice A len cap) d p) :
    ∃ ls : List (List UInt8), ls.length = len ∧ RT w w.heap.size A ls cap ∧ True := by
  obtain ⟨fuel, hf⟩ := h
  rcases Go.Deep.open_slice Try.underlying38 hf with ⟨hcs, _⟩ | ⟨a, n, c, m, q, D, Pl, hcs, _, hl, hm, hmm, _, hx⟩
  · simp [Value.cells] at hcs
    obtain ⟨rfl, rfl, rfl⟩ := hcs
    exact ⟨[], rfl, RT.nil_ _ _, trivial⟩
  · simp [Value.cells] at hcs
    obtain ⟨rfl, rfl, rfl⟩ := hcs
    have hC : Try.prog.cellsOf 22 = 1 := by kernel_rfl
    have hml : len ≤ m := by rw [hmm]; split <;> omega
    obtain ⟨F, hF⟩ := Go.Deep.choose_lt (α := List UInt8) (n := len) (p := fun i l => a.block < w.heap.size ∧ ∃ V c, w.cell? (a.add i) = some (.slice V l.length c) ∧ RB w w.heap.size V l c) (fun i hi => by
      obtain ⟨cs', h1, h2⟩ := hx i (by omega)
      rw [hC] at h1
      obtain ⟨hsz, _, hat⟩ := World.cells?_some h1
      match cs', hsz with
      | [v], _ =>
        obtain ⟨V, l, c, rfl, hr⟩ := bytes_of_trod h2
        have e0 := hat 0 (by omega)
        rw [add_add_, Nat.mul_one, Nat.add_zero] at e0
        have hlt := World.block_lt_of_cell? w _ e0
        rw [add_block] at hlt
        exact ⟨l, hlt, V, c, e0, hr⟩)
    refine ⟨(List.range len).map F, by simp, ⟨by simp; omega, hm, .inr ⟨a, rfl, fun k l hkl => ?_⟩⟩, trivial⟩
    rw [List.getElem?_map] at hkl
    obtain ⟨k', hk', rfl⟩ := Option.map_eq_some_iff.1 hkl
    have hk := (List.getElem?_eq_some_iff.1 hk').1
    simp at hk
    rw [List.getElem?_range hk] at hk'
    injection hk' with hk'
    subst hk'
    exact hF k hk

set_option maxRecDepth 100000 in
theorem tel_of_trod {fuel : Nat} {cs : List Value} {x : DataW H × List MemPlace}
    (h : DataW.trod enc Try.prog w base spare held fuel 24 cs = some x) : ∃ (t : Tl) (V : Option Addr) (c : Nat), cs = [.int .i64 t.kind, .int .i64 t.verb, .int .i64 t.opt, .slice V t.data.length c] ∧ RB w w.heap.size V t.data c ∧ I64 t.kind ∧ I64 t.verb ∧ I64 t.opt := by
  obtain ⟨xs, n, _, _, hlen, hxl, hf⟩ := DataW.trod_struct Try.underlying24 h
  have hC : Try.prog.cellsOf 24 = 4 := by kernel_rfl
  have hCi : Try.prog.cellsOf 3 = 1 := by kernel_rfl
  have hCb : Try.prog.cellsOf 22 = 1 := by kernel_rfl
  rw [hC] at hlen
  match cs, hlen with
  | [c0, c1, c2, c3], _ =>
    match xs, hxl with
    | [y0, y1, y2, y3], _ =>
      have h0 := hf 0 _ rfl
      have h1 := hf 1 _ rfl
      have h2 := hf 2 _ rfl
      have h3 := hf 3 _ rfl
      change DataW.trod enc Try.prog w base spare held n 3 (List.take (Try.prog.cellsOf 3) (List.drop 0 [c0, c1, c2, c3])) = some y0 at h0
      change DataW.trod enc Try.prog w base spare held n 3 (List.take (Try.prog.cellsOf 3) (List.drop 1 [c0, c1, c2, c3])) = some y1 at h1
      change DataW.trod enc Try.prog w base spare held n 3 (List.take (Try.prog.cellsOf 3) (List.drop 2 [c0, c1, c2, c3])) = some y2 at h2
      change DataW.trod enc Try.prog w base spare held n 22 (List.take (Try.prog.cellsOf 22) (List.drop 3 [c0, c1, c2, c3])) = some y3 at h3
      rw [hCi] at h0 h1 h2
      rw [hCb] at h3
      simp only [List.drop_zero, List.drop_succ_cons, List.take_succ_cons, List.take_zero] at h0 h1 h2 h3
      obtain ⟨t0, ht0, _, hw0⟩ := DataW.trod_int Try.underlying3 h0
      obtain ⟨t1, ht1, _, hw1⟩ := DataW.trod_int Try.underlying3 h1
      obtain ⟨t2, ht2, _, hw2⟩ := DataW.trod_int Try.underlying3 h2
      obtain ⟨V, l, c, hv, hr⟩ := bytes_of_trod h3
      simp only [List.cons.injEq, and_true] at ht0 ht1 ht2
      subst ht0 ht1 ht2 hv
      exact ⟨⟨t0, t1, t2, l⟩, V, c, rfl, hr, bounds_i64 hw0, bounds_i64 hw1, bounds_i64 hw2⟩
set_option maxRecDepth 100000 in
theorem open_Tel {r : Reach} {b0 : Nat} {v : Value} {d : DataW H} {p : List MemPlace} (hv : Value.okWide Try.prog w r b0 24 v) (h : DataW.Trod enc Try.prog w base spare held 24 v d p) :
    ∃ (t : Tl) (A : Option Addr) (cap : Nat), v = .agg #[.int .i64 t.kind, .int .i64 t.verb, .int .i64 t.opt, .slice A t.data.length cap] ∧ RB w w.heap.size A t.data cap ∧ I64 t.kind ∧ I64 t.verb ∧ I64 t.opt := by
  obtain ⟨cs, rfl, _⟩ := okWide_struct Try.underlying24 hv
  obtain ⟨fuel, hf⟩ := h
  obtain ⟨t, V, c, hcs, hr, hI⟩ := tel_of_trod hf
  have h2 : cs.toList = [.int .i64 t.kind, .int .i64 t.verb, .int .i64 t.opt, .slice V t.data.length c] := hcs
  have e : cs = #[.int .i64 t.kind, .int .i64 t.verb, .int .i64 t.opt, .slice V t.data.length c] := Array.ext' h2
  exact ⟨t, V, c, by rw [e], hr, hI⟩
end
end Go.Proofs.Ytcfhpoigfkljpaa
