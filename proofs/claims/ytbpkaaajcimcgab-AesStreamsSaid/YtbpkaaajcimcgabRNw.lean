/- The walk of New of the document's answer. -/
import Derived.Test.YtbpkaaajcimcgabBox
import Derived.Deep.QuietTactic
import Derived.BigQuiet
namespace Go.Proofs.Ytbpkaaajcimcgab
open Go.RowKit

theorem rbuilt_any : Try.prog.built 47 [(0, .agg (bcells subT).toArray)] = some (bcells (subT ++ zeros 176)).toArray := by kernel_rfl
theorem wpList_buildR {ops : Array Oper} {rest : List Oper} {o : Oper} {a : Act} {w : World} {Q : Exit → Act → World → Prop} (hg : o.guard = none) (x : Operand) (ho : o.op = .build 47 #[(0, x)])
    (hx : a.eval x = .agg (bcells subT).toArray) (h : wpList Try.prog ops Q rest (a.put o.dst (.agg (bcells (subT ++ zeros 176)).toArray)) w) : wpList Try.prog ops Q (o :: rest) a w := by
  refine wpList_build hg 47 #[(0, x)] ho ?_ ?_
  · simp only [List.map_toArray, List.map_cons, List.map_nil, hx, rbuilt_any, Option.isSome_some]
  · simp only [List.map_toArray, List.map_cons, List.map_nil, hx, rbuilt_any, Option.getD_some]
    exact h

theorem patch_low (l : List UInt8) (off : Nat) (p : List UInt8) (h : off ≤ l.length) (i : Nat) (hi : i < off) : (patch l off p)[i]? = l[i]? := by
  rw [patch, List.append_assoc, List.getElem?_append_left (by rw [List.length_take]; omega), List.getElem?_take_of_lt hi]
theorem patch_nil (l : List UInt8) (off : Nat) : patch l off [] = l := by rw [patch, List.append_nil, List.length_nil, Nat.add_zero, List.take_append_drop]
theorem patch_set (l : List UInt8) (off k : Nat) (p : List UInt8) (u : UInt8) (hu : p[k]? = some u) (hl : off + p.length ≤ l.length) : (patch l off (p.take k)).set (off + k) u = patch l off (p.take (k + 1)) := by
  have hk : k < p.length := (List.getElem?_eq_some_iff.1 hu).1
  have e : p.take (k + 1) = p.take k ++ [u] := by rw [List.take_add_one, hu]; rfl
  have h1 : (l.take off).length = off := by rw [List.length_take]; omega
  have h2 : (p.take k).length = k := by rw [List.length_take]; omega
  have h3 : l.drop (off + k) = l[off + k]'(by omega) :: l.drop (off + (k + 1)) := List.drop_eq_getElem_cons (by omega)
  rw [patch, patch, e, List.length_append, h2, h3]
  rw [List.set_append_right _ _ (by rw [List.length_append, h1, h2]; exact Nat.le_refl _), List.length_append, h1, h2, Nat.sub_self, List.set_cons_zero]
  simp
theorem patch_at (l : List UInt8) (off k : Nat) (p : List UInt8) (hk : k < p.length) (hl : off + p.length ≤ l.length) : ∃ u, (patch l off (p.take k))[off + k]? = some u := by
  have h : (patch l off (p.take k)).length = l.length := patch_length _ _ _ (by rw [List.length_take]; omega)
  exact ⟨_, List.getElem?_eq_getElem (by omega)⟩
theorem tms_two (c : UInt8) : tms c 2 = dbl c := forall_u8 (p := fun c => tms c 2 = dbl c) (by decide +kernel) c

/-- The cipher, and the constant, behind i words. -/
def confOf (key : List UInt8) (i : Nat) : List UInt8 := if i < 4 then keyTo key (4 * i) else (expTo key (i - 4)).1
def rconOf (key : List UInt8) (i : Nat) : UInt8 := if i < 4 then 1 else (expTo key (i - 4)).2
theorem confOf_length (key : List UInt8) (hk : key.length = 16) (i : Nat) (hi : i ≤ 44) : (confOf key i).length = 432 := by
  rw [confOf]
  split
  · exact keyTo_length key hk _
  · exact expTo_length key hk _ (by omega)
theorem confOf_low (key : List UInt8) (hk : key.length = 16) (i : Nat) (hi : i < 4) : confOf key (i + 1) = keyTo key (4 * i + 4) := by
  rw [confOf]
  by_cases h : i + 1 < 4
  · rw [if_pos h]
    rfl
  · rw [if_neg h, show i + 1 - 4 = 0 by omega, ← keyTo_all key hk, show 4 * i + 4 = 16 by omega]
theorem rconOf_low (key : List UInt8) (i : Nat) (hi : i < 4) : rconOf key (i + 1) = 1 := by
  rw [rconOf]
  by_cases h : i + 1 < 4
  · rw [if_pos h]
  · rw [if_neg h, show i + 1 - 4 = 0 by omega]
    rfl
theorem confOf_high (key : List UInt8) (i : Nat) (hi : 4 ≤ i) : confOf key (i + 1) = patch (confOf key i) (256 + 4 * i) (nextWord (confOf key i) (rconOf key i) i) ∧ rconOf key (i + 1) = (if i % 4 = 0 then dbl (rconOf key i) else rconOf key i) := by
  obtain ⟨n, rfl⟩ : ∃ n, i = n + 4 := ⟨i - 4, by omega⟩
  rw [confOf, confOf, rconOf, rconOf, if_neg (by omega), if_neg (by omega), if_neg (by omega), if_neg (by omega), show n + 4 + 1 - 4 = n + 1 by omega, show n + 4 - 4 = n by omega]
  exact ⟨rfl, rfl⟩
theorem turned_get (K : List UInt8) (c : UInt8) (i k : Nat) (hk : k < 4) (h0 : i % 4 = 0) {u v : UInt8} (hu : K[256 + 4 * (i - 1) + (k + 1) % 4]? = some u) (hv : K[u.toNat]? = some v) : (turned K c i)[k]? = some (if k = 0 then v ^^^ c else v) := by
  have ht : ∀ j, j < 4 → (turnOf K (wordAt K (i - 1)))[j]? = some (K.getD ((wordAt K (i - 1)).getD ((j + 1) % 4) 0).toNat 0) := by
    intro j hj
    rw [turnOf, List.getElem?_map, List.getElem?_range hj]
    rfl
  have hw : (wordAt K (i - 1)).getD ((k + 1) % 4) 0 = u := by
    simp only [List.getD]
    rw [wordAt, piece_at _ _ _ _ (Nat.mod_lt _ (by decide)), hu]
    rfl
  have hT := ht k hk
  rw [hw] at hT
  simp only [List.getD, hv, Option.getD_some] at hT
  rw [turned, if_pos h0, firstX, List.getElem?_set]
  by_cases h : k = 0
  · subst h
    rw [if_pos rfl, if_pos (by rw [turnOf_length]; omega), if_pos rfl]
    simp only [List.getD, hT, Option.getD_some]
  · rw [if_neg (by omega), if_neg h, hT]
theorem turned_get' (K : List UInt8) (c : UInt8) (i k : Nat) (hk : k < 4) (h0 : i % 4 ≠ 0) : (turned K c i)[k]? = K[256 + 4 * (i - 1) + k]? := by
  rw [turned, if_neg h0, wordAt, piece_at _ _ _ _ hk]
theorem nextWord_get (K : List UInt8) (c : UInt8) (i k : Nat) (hk : k < 4) {t u : UInt8} (ht : (turned K c i)[k]? = some t) (hu : K[256 + 4 * (i - 4) + k]? = some u) : (nextWord K c i)[k]? = some (u ^^^ t) := by
  rw [nextWord, xors, List.getElem?_map, List.getElem?_range hk]
  simp only [Option.map_some, List.getD, ht, Option.getD_some]
  rw [wordAt, piece_at _ _ _ _ hk, hu, Option.getD_some, UInt8.xor_comm]
end Go.Proofs.Ytbpkaaajcimcgab
