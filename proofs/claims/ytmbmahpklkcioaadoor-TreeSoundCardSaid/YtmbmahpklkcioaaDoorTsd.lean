/- A Tree of root's whose nodes all lie in its top: what the calls of root answer. -/
import Derived.Test.YtmbmahpklkcioaaDoorTsb
import Derived.Test.YtmbmahpklkcioaaDoorTsc
import Derived.Test.YtmbmahpklkcioaaDoorTrw
namespace Go.Proofs.YtmbmahpklkcioaaDoor
open Go.RowKit Go.Maps Go.WideMaps

/-- A path of one name. -/
structure One (p : List UInt8) : Prop where
  ok : pathOk p = true
  ah : aheads p = [[47]]
  par : parOf p = [47]
  ne : p ≠ [47]
  len : p.length ≤ 100
  name : ∃ q, p = 47 :: q ∧ (47 : UInt8) ∉ q
def topN (b : Nat) (v : Value) : Nd := ⟨b, true, rootB, 61, v⟩
def Flat (M : List (List UInt8 × Nd)) (ps : List (List UInt8)) : Prop :=
  ∃ b v fs, M = ([47], topN b v) :: fs ∧ keysM fs = ps ∧ (∀ p ∈ ps, One p) ∧ ∀ q ∈ fs, q.2.owner.size ≤ 1000000
section
variable {M : List (List UInt8 × Nd)} {ps : List (List UInt8)} {p : List UInt8}
theorem Flat.top (h : Flat M ps) : ∃ b v, M.lookup [47] = some (topN b v) := by
  obtain ⟨b, v, fs, rfl, -⟩ := h
  exact ⟨b, v, by rw [List.lookup_cons_self]⟩
theorem Flat.top' (h : Flat M ps) : ∃ n, M.lookup [47] = some n := by
  obtain ⟨b, v, h⟩ := h.top
  exact ⟨_, h⟩
theorem Flat.len (h : Flat M ps) : M.length = ps.length + 1 := by
  obtain ⟨b, v, fs, rfl, rfl, -⟩ := h
  unfold keysM
  rw [List.length_cons, List.length_map]
theorem Flat.keys (h : Flat M ps) : keysM M = [47] :: ps := by
  obtain ⟨b, v, fs, rfl, rfl, -⟩ := h
  rfl
theorem Flat.come (h : Flat M ps) (hp : One p) : (comeR M rootB p).2 = 0 := by
  obtain ⟨b, v, ht⟩ := h.top
  have hc : comeE M rootB (aheads p) = 0 := by
    rw [hp.ah, comeE, ht]
    rfl
  unfold comeR
  rw [if_neg (by rw [hp.ok]; decide), if_pos hc]
theorem Flat.out (h : Flat M ps) (hp : One p) (hn : p ∉ ps) : M.lookup p = none := by
  cases hl : M.lookup p with
  | none => rfl
  | some n =>
    have h1 : p ∈ keysM M := mem_keysM.2 ⟨n, lookup_in hl⟩
    rw [h.keys, List.mem_cons] at h1
    exact (h1.elim (fun e => absurd e hp.ne) (fun e => absurd e hn))
theorem Flat.at_ (h : Flat M ps) (hn : p ∈ ps) : ∃ n, M.lookup p = some n := by
  cases hl : M.lookup p with
  | some n => exact ⟨n, rfl⟩
  | none =>
    have h1 := lookup_out hl
    rw [h.keys] at h1
    exact absurd (List.mem_cons_of_mem _ hn) h1
theorem Flat.add (h : Flat M ps) (hp : One p) : addC M rootB p = if 63 ≤ ps.length then 2 else 0 := by
  obtain ⟨b, v, ht⟩ := h.top
  have : addC M rootB p = if mayOk rootB 2 (topN b v).owner (topN b v).mode = false then 114 else if 64 ≤ M.length then 2 else 0 := addC_of (by rw [hp.par]; exact ht)
  rw [this, if_neg (show ¬ mayOk rootB 2 (topN b v).owner (topN b v).mode = false by rw [show mayOk rootB 2 (topN b v).owner (topN b v).mode = true from rfl]; decide), h.len]
  by_cases h1 : 63 ≤ ps.length
  · rw [if_pos h1, if_pos (by omega)]
  · rw [if_neg h1, if_neg (by omega)]
theorem Flat.mkdir (h : Flat M ps) (hp : One p) (hn : p ∉ ps) (m : Int) (hm : 0 ≤ m ∧ m ≤ 63) : mkdirC M rootB p m = if 63 ≤ ps.length then 2 else 0 := by
  unfold mkdirC
  rw [h.come hp, if_neg (by decide), if_neg (by simpa using hm), h.out hp hn]
  exact h.add hp
theorem Flat.write (h : Flat M ps) (hp : One p) (hn : p ∉ ps) (k : Nat) (hk : k ≤ 1000) (m : Int) (hm : 0 ≤ m ∧ m ≤ 63) : writeC M rootB p k m = if 63 ≤ ps.length then 2 else 0 := by
  unfold writeC
  rw [h.come hp, if_neg (by decide), if_neg (by simpa using hm), if_neg (by omega), h.out hp hn]
  exact h.add hp
theorem Flat.remove (h : Flat M ps) (hp : One p) (hn : p ∈ ps) : removeC M rootB p = 0 := by
  obtain ⟨b, v, ht⟩ := h.top
  obtain ⟨n, hl⟩ := h.at_ hn
  unfold removeC
  rw [h.come hp, if_neg (by decide), if_neg hp.ne, hl, hp.par, ht]
  rfl
theorem Flat.noKid (h : Flat M ps) (hp : p ≠ [47]) : NoKid M p := by
  intro q n hq hq0
  have h1 : q ∈ keysM M := mem_keysM.2 ⟨n, hq⟩
  rw [h.keys, List.mem_cons] at h1
  obtain ⟨b, v, fs, rfl, rfl, h2, -⟩ := h
  have h3 := h2 q (h1.resolve_left hq0)
  obtain ⟨r, hr, hr2⟩ := h3.name
  refine ⟨by have := h3.len; omega, [], r, hr, hr2, ?_⟩
  rw [hr]
  exact fun e => hp (e.symm.trans rfl)
theorem Flat.put (h : Flat M ps) (hp : One p) (n : Nd) (hn : n.owner.size ≤ 1000000) : Flat (M ++ [(p, n)]) (ps ++ [p]) := by
  obtain ⟨b, v, fs, rfl, rfl, h2, h3⟩ := h
  refine ⟨b, v, fs ++ [(p, n)], rfl, by unfold keysM; rw [List.map_append]; rfl, fun q hq => ?_, fun q hq => ?_⟩
  · rcases List.mem_append.1 hq with hq | hq
    · exact h2 q hq
    · rw [List.mem_singleton.1 hq]; exact hp
  · rcases List.mem_append.1 hq with hq | hq
    · exact h3 q hq
    · rw [List.mem_singleton.1 hq]; exact hn
theorem Flat.del (h : Flat M ps) (hp : p ≠ [47]) : Flat (withoutM M p) (ps.filter fun x => decide (x ≠ p)) := by
  obtain ⟨b, v, fs, rfl, rfl, h2, h3⟩ := h
  refine ⟨b, v, withoutM fs p, ?_, ?_, fun q hq => h2 q (List.mem_filter.1 hq).1, fun q hq => h3 q (List.mem_filter.1 hq).1⟩
  · unfold withoutM
    rw [List.filter_cons_of_pos (by simpa using fun e => hp e.symm)]
  · unfold keysM withoutM
    rw [List.filter_map]
    rfl
theorem Flat.short (h : Flat M ps) : Short M := by
  intro q n hq
  obtain ⟨b, v, fs, rfl, rfl, h2, h3⟩ := h
  rcases List.mem_cons.1 hq with e | hq
  · cases e; exact ⟨by simp, show rootB.size ≤ 1000000 by decide⟩
  · exact ⟨by have := (h2 q (mem_keysM.2 ⟨n, hq⟩)).len; omega, h3 _ hq⟩
end
/-- The paths that the law makes. -/
def pf (i : Nat) : List UInt8 := [47, 102, UInt8.ofNat (97 + i / 26), UInt8.ofNat (97 + i % 26)]
theorem one_of {p : List UInt8} (h : (pathOk p && decide (aheads p = [[47]]) && decide (parOf p = [47]) && decide (p ≠ [47]) && decide (p.length ≤ 100) && decide (p.head? = some 47) && decide ((47 : UInt8) ∉ p.tail)) = true) : One p := by
  simp only [Bool.and_eq_true, decide_eq_true_eq] at h
  obtain ⟨⟨⟨⟨⟨⟨h1, h2⟩, h3⟩, h4⟩, h5⟩, h6⟩, h7⟩ := h
  refine ⟨h1, h2, h3, h4, h5, ?_⟩
  cases p with
  | nil => cases h6
  | cons x q => injection h6 with h6; subst h6; exact ⟨q, rfl, h7⟩
theorem pf_one {i : Nat} (h : i < 72) : One (pf i) := one_of ((by decide +kernel : ∀ i : Fin 72, (pathOk (pf i) && decide (aheads (pf i) = [[47]]) && decide (parOf (pf i) = [47]) && decide (pf i ≠ [47]) && decide ((pf i).length ≤ 100) && decide ((pf i).head? = some 47) && decide ((47 : UInt8) ∉ (pf i).tail)) = true) ⟨i, h⟩)
theorem pf_ne {i j : Nat} (h : i < 72) (hj : j < 63) (hij : j < i) : pf j ≠ pf i := (by decide +kernel : ∀ i : Fin 72, ∀ j : Fin 63, j.val < i.val → pf j ≠ pf i) ⟨i, h⟩ ⟨j, hj⟩ hij
def pfs (k : Nat) : List (List UInt8) := (List.range k).map pf
theorem pfs_out {i k : Nat} (h : i < 72) (hk : k ≤ 63) (hki : k ≤ i) : pf i ∉ pfs k := by
  intro hm
  obtain ⟨j, hj, e⟩ := List.mem_map.1 hm
  have := List.mem_range.1 hj
  exact pf_ne h (by omega) (by omega) e
theorem pfs_succ (k : Nat) : pfs (k + 1) = pfs k ++ [pf k] := by
  unfold pfs
  rw [List.range_succ, List.map_append]
  rfl
theorem pfs_len (k : Nat) : (pfs k).length = k := by simp [pfs]
def pX : List UInt8 := [47, 120]
def pY : List UInt8 := [47, 121]
def pA : List UInt8 := [47, 102, 97, 97]
theorem oneX : One pX := one_of (by kernel_rfl)
theorem oneY : One pY := one_of (by kernel_rfl)
theorem oneA : One pA := one_of (by kernel_rfl)
theorem outX : pX ∉ pfs 63 := by decide +kernel
theorem inA : pA ∈ pfs 63 := by decide +kernel
def rest62 : List (List UInt8) := (pfs 63).filter fun x => decide (x ≠ pA)
theorem rest_len : rest62.length = 62 := by decide +kernel
theorem outX2 : pX ∉ rest62 := by decide +kernel
theorem outY2 : pY ∉ rest62 ++ [pX] := by decide +kernel
end Go.Proofs.YtmbmahpklkcioaaDoor
