/- The document's sum: what it holds between its blocks. -/
import Derived.Test.YtndnmjolcilamaaDoorRpd
namespace Go.Proofs.YtndnmjolcilamaaDoor
open Go.RowKit

/-- The words behind j blocks of p. -/
def hashTo (p : List UInt8) (j : Nat) : List UInt32 := (newH.adds (p.take (64 * j))).ws
theorem hash_len (p : List UInt8) (j : Nat) : (hashTo p j).length = 8 := (compress_len newH _ newH_len.1 newH_len.2).1
theorem hash_zero (p : List UInt8) : hashTo p 0 = initW := by rw [hashTo, Nat.mul_zero, List.take_zero]; rfl
theorem patch_full (l q : List UInt8) (h : l.length ≤ q.length) : patch l 0 q = q := by
  rw [patch, List.take_zero, List.nil_append, List.drop_eq_nil_of_le (by omega), List.append_nil]
theorem hash_step (p : List UInt8) (j : Nat) (h : 64 * (j + 1) ≤ p.length) : hashTo p (j + 1) = compress (hashTo p j) ((p.drop (64 * j)).take 64) := by
  have hl := compress_len newH (p.take (64 * j)) newH_len.1 newH_len.2
  have hq : ((p.drop (64 * j)).take 64).length = 64 := by rw [List.length_take, List.length_drop]; omega
  have hc : (newH.adds (p.take (64 * j))).c = 64 * j := by
    rw [hl.2.2, List.length_take, Nat.min_eq_left (by omega)]
    show 0 + 64 * j = _
    omega
  rw [hashTo, hashTo, show 64 * (j + 1) = 64 * j + 64 by omega, List.take_add, adds_append, adds_full _ hl.2.1 _ (by rw [hc, hq]; omega), hc, show 64 * j % 64 = 0 by omega, patch_full _ _ (by rw [hl.2.1, hq]; exact Nat.le_refl _)]
theorem pad_len (l : List UInt8) : (l ++ padBytes l.length).length % 64 = 0 ∧ 64 ≤ (l ++ padBytes l.length).length := by
  rw [List.length_append, padBytes]
  simp only [List.length_append, List.length_cons, List.length_nil, zeros_length, lenBytes_length, gapOf]
  omega
theorem hash_last (l : List UInt8) (m : Nat) (h : 64 * m = (l ++ padBytes l.length).length) : hashTo (l ++ padBytes l.length) m = (padOf (newH.adds l)).ws := by
  have hl := compress_len newH l newH_len.1 newH_len.2
  have hc : (newH.adds l).c = l.length := by
    rw [hl.2.2]
    show 0 + l.length = _
    omega
  rw [hashTo, h, List.take_of_length_le (Nat.le_refl _), adds_append, padOf, hc]

/-- What the document's sum holds: its answer's block, the constants, the words, the text. -/
def SumSt (w0 wr : World) (B g3 g4 gp : Nat) (pc : List Value) (hs : List UInt32) : Prop :=
  w0.grownBy wr none ∧ CB wr w0.heap.size 61 (bcells (zeros 32)) ∧ CB wr g3 91 (wcells roundK) ∧ CB wr g4 93 (wcells hs) ∧ CB wr gp 5 pc ∧ w0.heap.size < g3 ∧ g3 < g4 ∧ g4 < gp ∧ gp < B ∧ B ≤ wr.heap.size
section
variable {w0 w w' : World} {B g3 g4 gp : Nat} {pc : List Value} {hs : List UInt32}
theorem SumSt.kept (h : SumSt w0 w B g3 g4 gp pc hs) (hg : w.grownBy w' none) : SumSt w0 w' B g3 g4 gp pc hs :=
  ⟨grown_trans' h.1 hg, h.2.1.kept hg, h.2.2.1.kept hg, h.2.2.2.1.kept hg, h.2.2.2.2.1.kept hg, h.2.2.2.2.2.1, h.2.2.2.2.2.2.1, h.2.2.2.2.2.2.2.1, h.2.2.2.2.2.2.2.2.1, Nat.le_trans h.2.2.2.2.2.2.2.2.2 hg.size⟩
theorem SumSt.alloc (h : SumSt w0 w B g3 g4 gp pc hs) (o : Obj) : SumSt w0 (w.alloc o) B g3 g4 gp pc hs := h.kept (grown_alloc w o none)
theorem SumSt.drewN (h : SumSt w0 w B g3 g4 gp pc hs) (n : Nat) : SumSt w0 (w.drewN n) B g3 g4 gp pc hs := h.kept ⟨rfl, rfl, rfl, Nat.le_refl _, fun _ _ _ => rfl⟩
theorem SumSt.drew (h : SumSt w0 w B g3 g4 gp pc hs) : SumSt w0 w.drew B g3 g4 gp pc hs := h.kept ⟨rfl, rfl, rfl, Nat.le_refl _, fun _ _ _ => rfl⟩
theorem SumSt.far {g : Nat} (h : SumSt w0 w B g3 g4 gp pc hs) (hg : w.grownBy w' (some g)) (hB : B ≤ g) : SumSt w0 w' B g3 g4 gp pc hs := by
  obtain ⟨h1, h2, h3, h4, h5, h6, h7, h8, h9, h10⟩ := h
  exact ⟨none_new h1 hg (by omega), h2.grown hg (by omega), h3.grown hg (by omega), h4.grown hg (by omega), h5.grown hg (by omega), h6, h7, h8, h9, Nat.le_trans h10 hg.size⟩
theorem SumSt.put {hs' : List UInt32} (h : SumSt w0 w B g3 g4 gp pc hs) (hg : w.grownBy w' (some g4)) (hc : CB w' g4 93 (wcells hs')) : SumSt w0 w' B g3 g4 gp pc hs' := by
  obtain ⟨h1, h2, h3, h4, h5, h6, h7, h8, h9, h10⟩ := h
  exact ⟨none_new h1 hg (by omega), h2.grown hg (by omega), h3.grown hg (by omega), hc, h5.grown hg (by omega), h6, h7, h8, h9, Nat.le_trans h10 hg.size⟩
theorem SumSt.g (h : SumSt w0 w B g3 g4 gp pc hs) : w0.grownBy w none := h.1
theorem SumSt.ans (h : SumSt w0 w B g3 g4 gp pc hs) : CB w w0.heap.size 61 (bcells (zeros 32)) := h.2.1
theorem SumSt.con (h : SumSt w0 w B g3 g4 gp pc hs) : CB w g3 91 (wcells roundK) := h.2.2.1
theorem SumSt.wd (h : SumSt w0 w B g3 g4 gp pc hs) : CB w g4 93 (wcells hs) := h.2.2.2.1
theorem SumSt.tx (h : SumSt w0 w B g3 g4 gp pc hs) : CB w gp 5 pc := h.2.2.2.2.1
theorem SumSt.sz (h : SumSt w0 w B g3 g4 gp pc hs) : B ≤ w.heap.size := h.2.2.2.2.2.2.2.2.2
theorem SumSt.lt4 (h : SumSt w0 w B g3 g4 gp pc hs) : g4 < B := by have := h.2.2.2.2.2.2.2.1; have := h.2.2.2.2.2.2.2.2.1; omega
theorem SumSt.lt0 (h : SumSt w0 w B g3 g4 gp pc hs) : w0.heap.size < g4 := by have := h.2.2.2.2.2.1; have := h.2.2.2.2.2.2.1; omega
theorem CB.drewN {t : TypeId} (h : CB w g3 t pc) (n : Nat) : CB (w.drewN n) g3 t pc := h
end
theorem OwnB.row_of {w : World} {base : Nat} {e : TypeId} {A : Option Addr} {q c : Nat} {l : List UInt8} (h : OwnB w base e (.slice A q c) l) (hl : 0 < l.length) : ∃ (g : Nat) (pc : List Value), A = some ⟨g, 0, none⟩ ∧ CB w g e pc ∧ base ≤ g ∧ (∀ (i : Nat) (u : UInt8), l[i]? = some u → pc[i]? = some (Value.int .u8 (u.toNat : Int))) := by
  rcases h.2 with ⟨_, h0⟩ | ⟨g, cap, cur, hv, hb, hg, hc, hm, h7, h8⟩
  · omega
  · injection hv with h1 h2 h3
    refine ⟨g, cur.toList, h1, hg, hb, fun i u hu => ?_⟩
    have hi : i < l.length := (List.getElem?_eq_some_iff.1 hu).1
    have h9 := congrArg (fun x => x[i]?) h8
    rw [List.getElem?_take_of_lt (by omega), bcells_some hu] at h9
    exact h9
theorem agg8w : AggT Tryd.prog 93 8 := ⟨fun _ => by kernel_rfl, by kernel_rfl⟩
theorem zero8 (w : World) : (zeroValue 93).run Tryd.prog w = .ok (.agg (wcells (wz 8)).toArray) w := by kernel_rfl
theorem szw8 : (Tryd.prog.info? 93).map (·.size) = some 8 := by kernel_rfl
theorem szb32 : (Tryd.prog.info? 61).map (·.size) = some 32 := by kernel_rfl
theorem overN (n : Nat) (p : List Value) (hp : p.length = n) (cs : List Value) (hc : cs.length = n) : over cs 0 p = p := by
  rw [over, List.take_zero, List.nil_append, List.drop_eq_nil_of_le (by omega), List.append_nil]
end Go.Proofs.YtndnmjolcilamaaDoor
