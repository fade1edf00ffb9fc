/- The walk of TreeSound. -/
import Derived.Test.YtmbmahpklkcioaaDoorTsn
import Derived.Test.YtmbmahpklkcioaaDoorTsj
namespace Go.Proofs.YtmbmahpklkcioaaDoor
open Go.RowKit Go.Maps Go.WideMaps

theorem SndM.new (b : Nat) (A : Option Addr) (c : Nat) : SndM [([47], ⟨b, true, rootB, 61, .slice A 0 c⟩)] := by
  refine ⟨⟨_, rfl, rfl⟩, fun p n hp => ?_, fun p n hp hne => ?_, by simp⟩
  · rw [List.mem_singleton] at hp; cases hp; exact ⟨rfl, by simp, show rootB.size ≤ 1000000 by decide, fun _ => ⟨A, c, rfl⟩⟩
  · rw [List.mem_singleton] at hp; cases hp; exact absurd rfl hne
theorem four_of (k : Int) : bits .and .i64 k 3 = 0 ∨ bits .and .i64 k 3 = 1 ∨ bits .and .i64 k 3 = 2 ∨ bits .and .i64 k 3 = 3 := by
  obtain ⟨q, hq, hb⟩ := and_low k 2 (by decide)
  replace hb : bits .and .i64 k 3 = (q : Int) := hb
  rw [hb]
  have : q < 4 := hq
  omega
theorem s_nodes {w0 w : World} {tb mb : Nat} {M : List (List UInt8 × Nd)} (h : TG w0 w tb mb M) (hS : SndM M) :
    Calls Tryd.prog 15 #[.pointer (some ⟨tb, 0, none⟩)] w fun e w' => ∃ ks A n c ys, e = .returned (.slice A n c) ∧ Bef w w' M ks A n c ys := by
  refine (nodes_any w tb mb M h.ts (by have := hS.len; omega) hS.short).mono ?_
  rintro e w' ⟨v, ks, cs, rfl, hks, hrow, hat, hg⟩
  obtain ⟨A, c, rfl, -, -⟩ := hrow.shape
  exact ⟨ks, A, cs.length, c, cs, rfl, hks, hrow, hat, hg, rfl⟩
set_option maxRecDepth 10000 in
set_option maxHeartbeats 1000000 in
theorem tnew2 (w : World) : Calls Tryd.prog 9 #[] w fun e w' => ∃ tb mb nd, e = .returned (.pointer (some ⟨tb, 0, none⟩)) ∧ TS w' tb mb [([47], nd)] ∧ nd.dir = true ∧ nd.owner = rootB ∧ nd.mode = 61 ∧ nd.data = .slice none 0 0 ∧ w.grownBy w' none ∧ w.heap.size ≤ tb ∧ w.heap.size ≤ mb ∧ w.heap.size ≤ nd.blk := by
  have hm0 := MT.made (P := Tryd.prog) (k := 9) (kv := kS) (vv := vN) w
  have hm1 := hm0.alloc (.cells (nodeC ⟨#[47]⟩ true rootB 61 (.slice none 0 0)).toArray 42)
  have H := Lib.hid hm1
  clear hm0 hm1
  have hmm := @run_makeMap Tryd.prog
  go_enter Tryd.func9, Tryd.ntmps9
  go_wp2_with (refine wpList_insM keyedS kS_inj rfl (.tmp 1) (.const (.string ⟨#[47]⟩)) (.tmp 3) rfl Tryd.underlying51 H.out (by simp [maxLen]) rfl [47] ⟨w.heap.size + 1, true, rootB, 61, .slice none 0 0⟩ (okS _ (by simp)) rfl rfl ?_; intro w3 h3 g3; have H3 := Lib.hid h3; have G3 := Lib.hid g3.grown; clear h3 g3)
  go_ret
  have hc0 : CB ((w.alloc (.map #[] 0)).alloc (.cells (nodeC ⟨#[47]⟩ true rootB 61 (.slice none 0 0)).toArray 42)) (w.heap.size + 1) 42 (nodeC ⟨#[47]⟩ true rootB 61 (.slice none 0 0)) := by
    have := CB.new (w.alloc (.map #[] 0)) 42 (nodeC ⟨#[47]⟩ true rootB 61 (.slice none 0 0))
    rw [World.size_alloc] at this
    exact this
  have hc3 := hc0.grown G3.out (by omega)
  have hs3 : w.heap.size + 2 ≤ w3.heap.size := by have := G3.out.size; simp at this; omega
  have hg : w.grownBy w3 none := none_new ((grown_alloc w (.map #[] 0) none).trans (grown_alloc _ _ none)) G3.out (Nat.le_refl _)
  refine ⟨w3.heap.size, w.heap.size, ⟨w.heap.size + 1, true, rootB, 61, .slice none 0 0⟩, rfl, ⟨⟨heap_alloc_new w3 _, H3.out.alloc _, fun q n hq => ?_⟩, fun q n q' n' hq hq' _ => ?_, fun q n hq => ?_, fun q n q' n' k hq hq' hk _ => ?_⟩, rfl, rfl, rfl, rfl, hg.trans (grown_alloc _ _ none), by omega, Nat.le_refl _, by show w.heap.size ≤ w.heap.size + 1; omega⟩
  · rw [List.mem_singleton] at hq
    cases hq
    exact ⟨hc3.alloc _, by show 61 < 64; omega⟩
  · rw [List.mem_singleton] at hq hq'
    cases hq
    cases hq'
    rfl
  · rw [List.mem_singleton] at hq
    cases hq
    exact ⟨[], OwnB.nil_ _ _ _, by simp⟩
  · rw [List.mem_singleton] at hq
    cases hq
    simp [Value.ownBlock] at hk

theorem s_new (w : World) : Calls Tryd.prog 9 #[] w fun e w' => ∃ tb mb M, e = .returned (.pointer (some ⟨tb, 0, none⟩)) ∧ TG w w' tb mb M ∧ SndM M ∧ w.grownBy w' none := by
  refine (tnew2 w).mono ?_
  rintro e w' ⟨tb, mb, ⟨b, d, o, m, v⟩, rfl, h1, rfl, rfl, rfl, rfl, h2, h3, h4, h5⟩
  exact ⟨tb, mb, _, rfl, ⟨h1, h2, h3, h4, fun q n hq => by
    rw [List.mem_singleton] at hq
    cases hq
    exact h5⟩, SndM.new b none 0, h2⟩

def bV (b : Bool) : Value := .bool b
def isDirM (M : List (List UInt8 × Nd)) (x : List UInt8) : Bool := match M.lookup x with | some n => n.dir | none => false
def dirsOf (M : List (List UInt8 × Nd)) (xs : List (List UInt8)) : List (List UInt8 × Bool) := (xs.filter (isDirM M)).map fun x => (x, true)
/-! ### Sorted paths -/
theorem sorted_le {ks : List (List UInt8)} (hs : SortedK ks) {i j : Nat} (hij : i < j) (hj : j < ks.length) : ks[i]'(by omega) ≤ ks[j] := List.pairwise_iff_getElem.1 hs i j (by omega) hj hij
theorem sorted_lt {ks : List (List UInt8)} (hs : SortedK ks) (hn : ks.Nodup) {i j : Nat} (hij : i < j) (hj : j < ks.length) : ks[i]'(by omega) < ks[j] := by
  apply Classical.byContradiction
  intro h
  have h1 : ks[j] ≤ ks[i]'(by omega) := List.not_lt.1 h
  exact List.pairwise_iff_getElem.1 hn i j (by omega) hj hij (List.le_antisymm (sorted_le hs hij hj) h1)
theorem lt_app (a : List UInt8) (c : UInt8) (t : List UInt8) : a < a ++ c :: t := by
  induction a with
  | nil => exact List.nil_lt_cons c t
  | cons x a ih => exact List.cons_lt_cons_iff.2 (.inr ⟨rfl, ih⟩)
theorem parOf_lt {p : List UInt8} (hp : pathOk p = true) (hne : p ≠ [47]) : parOf p < p := by
  obtain ⟨a, b, hab, hb, -⟩ := parent_on hp hne
  obtain ⟨t, ht⟩ := path_head hp
  have hl : p.length = a.length + 1 + b.length := by rw [hab, List.length_append, List.length_cons]; omega
  have hl2 : max a.length 1 < p.length := by
    rcases Nat.lt_or_ge (max a.length 1) p.length with h | h
    · exact h
    · exfalso
      have h1 : p.length = 1 := by omega
      rw [ht, List.length_cons] at h1
      exact hne (by rw [ht, List.eq_nil_of_length_eq_zero (by omega : t.length = 0)])
  rw [parOf_eq hab hb]
  have h2 := lt_app (p.take (max a.length 1)) (p[max a.length 1]) (p.drop (max a.length 1 + 1))
  rw [← List.drop_eq_getElem_cons hl2, List.take_append_drop] at h2
  exact h2
section
variable {M : List (List UInt8 × Nd)} {ks : List (List UInt8)}
theorem par_before (hS : SndM M) (hL : ListedM M ks) {j : Nat} {x : List UInt8} (hx : ks[j]? = some x) (hne : x ≠ [47]) : (parOf x, true) ∈ dirsOf M (ks.take j) := by
  obtain ⟨hj, hxe⟩ := List.getElem?_eq_some_iff.1 hx
  have hxm : x ∈ keysM M := hL.1.mem_iff.1 (List.mem_of_getElem? hx)
  obtain ⟨n, hn⟩ := mem_keysM.1 hxm
  obtain ⟨m, hm, hd⟩ := hS.par x n hn hne
  have hpm : parOf x ∈ ks := hL.1.mem_iff.2 (mem_keysM.2 ⟨m, lookup_in hm⟩)
  obtain ⟨i, hi, hie⟩ := List.mem_iff_getElem.1 hpm
  have hlt := parOf_lt (hS.all x n hn).1 hne
  have hij : i < j := by
    apply Classical.byContradiction
    intro h
    rcases Nat.lt_or_eq_of_le (Nat.le_of_not_lt h) with h1 | h1
    · have h2 := sorted_le hL.2 h1 hi
      rw [hxe, hie] at h2
      exact absurd hlt (List.not_lt.2 h2)
    · subst h1
      rw [hxe] at hie
      rw [← hie] at hlt
      exact absurd hlt (List.lt_irrefl x)
  refine List.mem_map.2 ⟨parOf x, List.mem_filter.2 ⟨?_, ?_⟩, rfl⟩
  · rw [← hie]
    exact List.mem_iff_getElem.2 ⟨i, by rw [List.length_take]; omega, by rw [List.getElem_take]⟩
  · unfold isDirM
    rw [hm]
    exact hd
theorem head_top (hS : SndM M) (hL : ListedM M ks) {x : List UInt8} (hx : ks[0]? = some x) : x = [47] := by
  apply Classical.byContradiction
  intro hne
  have h := par_before hS hL hx hne
  simp [dirsOf] at h
theorem dirs_succ {j : Nat} {x : List UInt8} (hx : ks[j]? = some x) : dirsOf M (ks.take (j + 1)) = dirsOf M (ks.take j) ++ (if isDirM M x then [(x, true)] else []) := by
  unfold dirsOf
  rw [List.take_add_one, hx, List.filter_append, List.map_append]
  cases hd : isDirM M x <;> simp [hd]
theorem dirs_out (hn : ks.Nodup) {j : Nat} {x : List UInt8} (hx : ks[j]? = some x) : x ∉ keysM (dirsOf M (ks.take j)) := by
  intro h
  obtain ⟨b, hb⟩ := mem_keysM.1 h
  obtain ⟨y, hy, e⟩ := List.mem_map.1 hb
  cases e
  obtain ⟨hj, hxe⟩ := List.getElem?_eq_some_iff.1 hx
  obtain ⟨i, hi, hie⟩ := List.mem_iff_getElem.1 (List.mem_filter.1 hy).1
  rw [List.length_take] at hi
  rw [List.getElem_take] at hie
  exact List.pairwise_iff_getElem.1 hn i j (by omega) hj (by omega) (hie.trans hxe.symm)
end
end Go.Proofs.YtmbmahpklkcioaaDoor
