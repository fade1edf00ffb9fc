/- What a memory of principals does, as lists; no program but its types' numbers. -/
import Derived.Test.YtfpcabfpnekejaaDoorBsc
namespace Go.Proofs.YtfpcabfpnekejaaDoor
open Go.RowKit Go.Maps Go.WideMaps

/-! The names a@R, b@R .. -/
def nmB (i : Nat) : List UInt8 := [UInt8.ofNat (97 + i), 64, 82]
def enB (i : Nat) (l : Int) : En := (nmB i, zeros 16, l, 0, false)
theorem nmB_inj {i j : Nat} (hi : i < 26) (hj : j < 26) (h : nmB i = nmB j) : i = j := by
  unfold nmB at h
  injection h with h _
  have h2 := congrArg UInt8.toNat h
  rw [UInt8.toNat_ofNat', UInt8.toNat_ofNat'] at h2
  omega
theorem nmB_parses : ∀ i, i < 26 → parses (nmB i) = true := by decide +kernel
theorem enB_right {i : Nat} (hi : i < 26) {l : Int} (h1 : 1 ≤ l) (h2 : l ≤ 1099511627776) : rightE (enB i l) = true := by
  unfold rightE
  rw [show (enB i l).1 = nmB i from rfl, nmB_parses i hi]
  simp [enB, h1, h2]
theorem enB_ok {i : Nat} {l : Int} (h1 : -9223372036854775808 ≤ l) (h2 : l ≤ 9223372036854775807) : enOk (enB i l) :=
  ⟨by show 3 ≤ 1000; omega, zeros_length 16, ⟨h1, h2⟩, by show (-9223372036854775808 : Int) ≤ 0 ∧ (0 : Int) ≤ 9223372036854775807; omega⟩
/-- The first n of them are known. -/
def stB (n : Nat) : Em := (List.range n).map fun i => (nmB i, enB i 1)
theorem stB_len (n : Nat) : (stB n).length = n := by simp [stB]
theorem stB_succ (n : Nat) : stB (n + 1) = stB n ++ [(nmB n, enB n 1)] := by simp [stB, List.range_succ]
theorem stB_mem {n i : Nat} (hn : n ≤ 26) (hi : i < 26) : nmB i ∈ keysM (stB n) ↔ i < n := by
  unfold keysM stB
  rw [List.map_map, List.mem_map]
  constructor
  · rintro ⟨j, hj, e⟩
    rw [List.mem_range] at hj
    have := nmB_inj (by omega) hi e
    omega
  · intro h
    exact ⟨i, List.mem_range.2 h, rfl⟩
theorem put_new {n : Nat} (h : n < 16) : putE (stB n) (enB n 1) = (stB (n + 1), 0) := by
  have hin : (enB n 1).1 ∉ keysM (stB n) := fun h2 => by have := (stB_mem (by omega) (by omega)).1 h2; omega
  unfold putE
  rw [enB_right (by omega) (by omega) (by omega), if_neg (by simp), if_neg (fun h2 => by have := h2.2; rw [stB_len] at this; omega), without_out _ _ hin, stB_succ]
  rfl
theorem put_more {M : Em} {i : Nat} (hi : i < 26) (hM : 16 ≤ M.length) (hin : nmB i ∉ keysM M) : putE M (enB i 1) = (M, 2) := by
  unfold putE
  rw [enB_right hi (by omega) (by omega), if_neg (by simp), if_pos ⟨hin, hM⟩]
theorem put_known {M : Em} {e : En} (h : rightE e = true) (hin : e.1 ∈ keysM M) : putE M e = (withoutM M e.1 ++ [(e.1, e)], 0) := by
  unfold putE
  rw [h, if_neg (by simp), if_neg (fun h2 => h2.1 hin)]
theorem put_room {M : Em} {e : En} (h : rightE e = true) (hM : M.length < 16) : putE M e = (withoutM M e.1 ++ [(e.1, e)], 0) := by
  unfold putE
  rw [h, if_neg (by simp), if_neg (fun h2 => by have := h2.2; omega)]
theorem keys_put {M : Em} {n x : List UInt8} {e : En} : x ∈ keysM (withoutM M n ++ [(n, e)]) ↔ x ∈ keysM M ∨ x = n := by
  unfold keysM
  rw [List.map_append, List.mem_append]
  have h := without_keys (M := M) (a := n) x
  unfold keysM at h
  rw [h]
  simp
  constructor
  · rintro (h | h)
    · exact .inl h.1
    · exact .inr h
  · intro h
    by_cases e : x = n
    · exact .inr e
    · exact .inl ⟨h.resolve_right e, e⟩
theorem without_put {M : Em} {n : List UInt8} {e : En} : withoutM (withoutM M n ++ [(n, e)]) n = withoutM M n := by
  unfold withoutM
  rw [List.filter_append, List.filter_filter]
  simp
/-- What BaseFull leaves at the end: one is put anew and goes, one more comes, a further one doesn't. -/
theorem full_end {k : Nat} (hk : k < 16) : ∃ M2 M3 M4 : Em, putE (stB 16) (enB k 2) = (M2, 0) ∧ (nmB k, enB k 2) ∈ M2 ∧ withoutM M2 (nmB k) = M3 ∧ putE M3 (enB 25 1) = (M4, 0) ∧ putE M4 (enB 24 1) = (M4, 2) ∧ M4.length = 16 ∧ M2.length = 16 ∧ M3.length = 15 ∧ nmB k ∈ keysM M2 := by
  have hin : nmB k ∈ keysM (stB 16) := (stB_mem (by omega) (by omega)).2 hk
  have hnd : (keysM (stB 16)).Nodup := by
    unfold keysM stB
    rw [List.map_map]
    refine List.Pairwise.map _ (R := fun a b => a ≠ b ∧ a < 26 ∧ b < 26) (fun a b h e => h.1 (nmB_inj h.2.1 h.2.2 e)) ?_
    exact List.Pairwise.imp_of_mem (fun ha hb h => ⟨h, by have := List.mem_range.1 ha; omega, by have := List.mem_range.1 hb; omega⟩) List.nodup_range
  have hl := without_len_in _ _ hnd hin
  rw [stB_len] at hl
  have h3 : (withoutM (stB 16) (nmB k)).length = 15 := by omega
  have h25 : ∀ i, i < 26 → 16 ≤ i → nmB i ∉ keysM (withoutM (stB 16) (nmB k)) := fun i hi hi2 h => by
    have := (stB_mem (n := 16) (by omega) hi).1 (((without_keys _).1 h).1)
    omega
  refine ⟨_, _, _, put_known (e := enB k 2) (enB_right (by omega) (by omega) (by omega)) hin, by simp [enB], without_put, put_room (enB_right (by omega) (by omega) (by omega)) (by show (withoutM (stB 16) (nmB k)).length < 16; omega), ?_, ?_, ?_, h3, ?_⟩
  · refine put_more (by omega) ?_ ?_
    · rw [List.length_append, show (enB 25 1).1 = nmB 25 from rfl, show (enB k 2).1 = nmB k from rfl, without_out _ _ (h25 25 (by omega) (by omega)), List.length_singleton]
      show 16 ≤ (withoutM (stB 16) (nmB k)).length + 1
      omega
    · intro h
      rcases keys_put.1 h with h | h
      · exact h25 24 (by omega) (by omega) h
      · exact absurd (nmB_inj (by omega) (by omega) h) (by omega)
  · rw [List.length_append, show (enB 25 1).1 = nmB 25 from rfl, show (enB k 2).1 = nmB k from rfl, without_out _ _ (h25 25 (by omega) (by omega)), List.length_singleton]
    show (withoutM (stB 16) (nmB k)).length + 1 = 16
    omega
  · rw [List.length_append, List.length_singleton]
    show (withoutM (stB 16) (nmB k)).length + 1 = 16
    omega
  · exact keys_put.2 (.inr rfl)
/-- No more than 16 are known. -/
theorem put_most {M : Em} (hd : (keysM M).Nodup) (h : M.length ≤ 16) (e : En) : (putE M e).1.length ≤ 16 := by
  unfold putE
  split
  · exact h
  · split
    · exact h
    · rename_i h2
      show (withoutM M e.1 ++ [(e.1, e)]).length ≤ 16
      rw [List.length_append, List.length_singleton]
      by_cases hin : e.1 ∈ keysM M
      · have := without_len_in M e.1 hd hin
        omega
      · have : ¬ 16 ≤ M.length := fun h3 => h2 ⟨hin, h3⟩
        have := without_len M e.1
        omega
theorem put_num (M : Em) (e : En) : 0 ≤ (putE M e).2 ∧ (putE M e).2 ≤ 2 := by
  unfold putE
  split
  · show (0 : Int) ≤ 1 ∧ (1 : Int) ≤ 2; omega
  · split
    · show (0 : Int) ≤ 2 ∧ (2 : Int) ≤ 2; omega
    · show (0 : Int) ≤ 0 ∧ (0 : Int) ≤ 2; omega
/-- What is put of another name leaves an entry. -/
theorem put_keeps {M : Em} {n : List UInt8} {v e : En} (h : (n, v) ∈ M) (hne : e.1 ≠ n) : (n, v) ∈ (putE M e).1 := by
  unfold putE
  split
  · exact h
  · split
    · exact h
    · exact List.mem_append_left _ (List.mem_filter.2 ⟨h, decide_eq_true (fun e2 => hne e2.symm)⟩)
theorem drop_keeps {M : Em} {n k : List UInt8} {v : En} (h : (n, v) ∈ M) (hne : k ≠ n) : (n, v) ∈ withoutM M k :=
  List.mem_filter.2 ⟨h, decide_eq_true (fun e2 => hne e2.symm)⟩
theorem drop_gone (M : Em) (n : List UInt8) : n ∉ keysM (withoutM M n) := fun h => ((without_keys n).1 h).2 rfl
end Go.Proofs.YtfpcabfpnekejaaDoor
