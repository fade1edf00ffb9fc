/- Authenticators: their cells; as keys of a map. -/
import Derived.Test.YtgamlioahdbikaaCb
import Derived.Test.YtgamlioahdbikaaMpt
import Derived.Test.YtgamlioahdbikaaRyp
import Derived.DeepKeys4
import Derived.Test.YtgamlioahdbikaaProg
namespace Go.Proofs.Ytgamlioahdbikaa
open Go.RowKit Go.Maps

theorem bcells_inj : ∀ {a b : List UInt8}, bcells a = bcells b → a = b
  | [], [], _ => rfl
  | [], _ :: _, h => by simp [bcells] at h
  | _ :: _, [], h => by simp [bcells] at h
  | x :: a, y :: b, h => by
    simp only [bcells, List.map_cons, List.cons.injEq, Value.int.injEq, true_and] at h
    rw [UInt8.toNat_inj.1 (Int.ofNat.inj h.1), bcells_inj (a := a) (b := b) h.2]
def acells (c : ByteArray) (k : List UInt8) (ti no : Int) : List Value := [.string c, .int .i64 ti, .int .u64 no] ++ bcells k
theorem acells_length (c : ByteArray) (k : List UInt8) (ti no : Int) (hk : k.length = 16) : (acells c k ti no).length = 19 := by simp [acells, bcells_length, hk]
theorem acells_one (c : ByteArray) (k : List UInt8) (ti no : Int) : ∀ u ∈ acells c k ti no, u.oneCell' = true := by
  intro u hu
  rcases List.mem_append.1 hu with h | h
  · simp at h
    rcases h with rfl | rfl | rfl <;> rfl
  · exact bcells_one k u h
def I64 (n : Int) : Prop := -9223372036854775808 ≤ n ∧ n ≤ 9223372036854775807
theorem I64.of {n : Int} (h : (Lit.int .i64 n).wf = true) : I64 n := by
  have := bounds_i64 h
  unfold I64
  omega
def auC (a : Au) : List Value := acells ⟨a.1.toArray⟩ a.2.2.2 a.2.1 a.2.2.1
def auV (a : Au) : Value := .agg (auC a).toArray
structure auOk (a : Au) : Prop where
  lc : a.1.length ≤ 1000
  lk : a.2.2.2.length = 16
  ti : I64 a.2.1
  no : 0 ≤ a.2.2.1 ∧ a.2.2.1 ≤ 18446744073709551615
theorem auC_length {a : Au} (h : auOk a) : (auC a).length = 19 := acells_length _ _ _ _ h.lk
theorem auC_one (a : Au) : ∀ u ∈ auC a, u.oneCell' = true := acells_one _ _ _ _
theorem auC_c (a : Au) : (auC a)[0]? = some (.string ⟨a.1.toArray⟩) := rfl
theorem auC_ti (a : Au) : (auC a)[1]? = some (.int .i64 a.2.1) := rfl
theorem auV_inj (a b : Au) (h : auV a = auV b) : a = b := by
  obtain ⟨ac, ati, ano, ak⟩ := a
  obtain ⟨bc, bti, bno, bk⟩ := b
  have h1 : acells ⟨ac.toArray⟩ ak ati ano = acells ⟨bc.toArray⟩ bk bti bno := by
    have := Value.agg.inj h
    simpa [auC] using congrArg Array.toList this
  simp only [acells, List.cons_append, List.nil_append, List.cons.injEq, Value.string.injEq, Value.int.injEq, true_and, ByteArray.mk.injEq] at h1
  obtain ⟨e1, e2, e3, e4⟩ := h1
  have e5 : ac = bc := by simpa using congrArg Array.toList e1
  rw [e5, e2, e3, bcells_inj e4]

section
variable {P : Program}
theorem mapM_some {α β : Type} {f : α → Option β} : ∀ l : List α, (∀ x ∈ l, ∃ y, f x = some y) → ∃ ys, l.mapM f = some ys
  | [], _ => ⟨[], by simp⟩
  | x :: l, h => by
    obtain ⟨y, hy⟩ := h x (by simp)
    obtain ⟨ys, hys⟩ := mapM_some l (fun z hz => h z (by simp [hz]))
    exact ⟨y :: ys, by simp [List.mapM_cons, hy, hys]⟩
theorem keyLits_struct {d : Nat} {t : TypeId} {fs : Array Field} {cs : List Value} (hu : P.underlying t = some (.struct fs)) (hl : cs.length = P.cellsOf t) (hn : fs.all (·.name != "_") = true)
    (h : ∀ f ∈ fs.toList, ∃ ls, P.keyLits d f.type ((cs.drop f.offset).take (P.cellsOf f.type)) = some ls) : ∃ ls, P.keyLits (d + 1) t cs = some ls := by
  obtain ⟨ys, hys⟩ := mapM_some fs.toList h
  unfold Program.keyLits
  rw [hu]
  simp only []
  rw [if_pos ⟨hl, hn⟩, hys]
  exact ⟨_, rfl⟩
theorem keyLits_arr {d n : Nat} {t e : TypeId} {cs : List Value} (hu : P.underlying t = some (.array n e)) (hl : cs.length = P.cellsOf t)
    (h : ∀ i, i < n → ∃ ls, P.keyLits d e ((cs.drop (i * P.cellsOf e)).take (P.cellsOf e)) = some ls) : ∃ ls, P.keyLits (d + 1) t cs = some ls := by
  obtain ⟨ys, hys⟩ := mapM_some (List.range n) (fun i hi => h i (List.mem_range.1 hi))
  unfold Program.keyLits
  rw [hu]
  simp only []
  rw [if_pos hl, hys]
  exact ⟨_, rfl⟩
theorem keyLits_int {d : Nat} {t : TypeId} {q : IntKind} {x : Int} (hu : P.underlying t = some (.int q)) (hw : (Lit.int q x).wf = true) : ∃ ls, P.keyLits (d + 1) t [.int q x] = some ls := by
  unfold Program.keyLits
  rw [hu]
  simp only []
  rw [if_pos ⟨trivial, hw⟩]
  exact ⟨_, rfl⟩
theorem keyLits_str {d : Nat} {t : TypeId} {s : ByteArray} (hu : P.underlying t = some .string) (hs : s.size ≤ maxLen) : ∃ ls, P.keyLits (d + 1) t [.string s] = some ls := by
  unfold Program.keyLits
  rw [hu]
  simp only []
  rw [if_pos hs]
  exact ⟨_, rfl⟩
end
theorem wf_u8 (u : UInt8) : (Lit.int .u8 (u.toNat : Int)).wf = true := by
  have := u.toNat_lt
  simp only [Lit.wf, Bool.and_eq_true, decide_eq_true_eq]
  exact ⟨by show (0 : Int) ≤ _; omega, by show (_ : Int) ≤ 255; omega⟩
theorem wf_u64 {n : Int} (h : 0 ≤ n ∧ n ≤ 18446744073709551615) : (Lit.int .u64 n).wf = true := by
  simp only [Lit.wf, Bool.and_eq_true, decide_eq_true_eq]
  exact ⟨h.1, h.2⟩
theorem keyLits_au (a : Au) (h : auOk a) (m : Nat) : ∃ ls, Try.prog.keyLits (m + 3) 35 (auC a) = some ls := by
  have hc1 : Try.prog.cellsOf 9 = 1 := by kernel_rfl
  have hc2 : Try.prog.cellsOf 2 = 1 := by kernel_rfl
  have hc3 : Try.prog.cellsOf 31 = 1 := by kernel_rfl
  have hc4 : Try.prog.cellsOf 33 = 16 := by kernel_rfl
  have hc5 : Try.prog.cellsOf 5 = 1 := by kernel_rfl
  have hc6 : Try.prog.cellsOf 35 = 19 := by kernel_rfl
  refine keyLits_struct Try.underlying35 (by rw [auC_length h, hc6]) (by kernel_rfl) (fun f hf => ?_)
  simp only [List.mem_cons, List.not_mem_nil, or_false] at hf
  rcases hf with rfl | rfl | rfl | rfl
  · change ∃ ls, Try.prog.keyLits (m + 2) 9 (((auC a).drop 0).take (Try.prog.cellsOf 9)) = some ls
    rw [hc1]
    exact keyLits_str Try.underlying9 (by have := h.lc; show a.1.toArray.size ≤ maxLen; unfold maxLen; rw [List.size_toArray]; omega)
  · change ∃ ls, Try.prog.keyLits (m + 2) 2 (((auC a).drop 1).take (Try.prog.cellsOf 2)) = some ls
    rw [hc2]
    exact keyLits_int Try.underlying2 (WalkArith.wf_i64 h.ti)
  · change ∃ ls, Try.prog.keyLits (m + 2) 31 (((auC a).drop 2).take (Try.prog.cellsOf 31)) = some ls
    rw [hc3]
    exact keyLits_int Try.underlying31 (wf_u64 h.no)
  · change ∃ ls, Try.prog.keyLits (m + 2) 33 (((auC a).drop 3).take (Try.prog.cellsOf 33)) = some ls
    rw [hc4]
    have he : ((auC a).drop 3).take 16 = bcells a.2.2.2 := by
      show (bcells a.2.2.2).take 16 = _
      exact List.take_of_length_le (by rw [bcells_length, h.lk]; exact Nat.le_refl _)
    rw [he]
    refine keyLits_arr Try.underlying33 (by rw [bcells_length, h.lk, hc4]) (fun i hi => ?_)
    rw [hc5, Nat.mul_one]
    have hi' : i < (bcells a.2.2.2).length := by rw [bcells_length, h.lk]; exact hi
    rw [List.drop_eq_getElem_cons hi', List.take_succ_cons, List.take_zero]
    have hx : (bcells a.2.2.2)[i] = .int .u8 ((a.2.2.2[i]'(by rw [h.lk]; exact hi)).toNat : Int) := by simp [bcells]
    rw [hx]
    exact keyLits_int Try.underlying5 (wf_u8 _)
theorem key_au (a : Au) (h : auOk a) : OkK Try.prog 35 auV a := by
  have hm : Try.prog.types.size = (Try.prog.types.size - 2) + 2 := by
    have : 2 ≤ Try.prog.types.size := by decide +kernel
    omega
  obtain ⟨ls, hls⟩ := keyLits_au a h (Try.prog.types.size - 2)
  have hk : Try.prog.keyType 35 = true := by kernel_rfl
  have hf : (auV a).formed Try.prog 35 = true := by
    have hc6 : Try.prog.cellsOf 35 = 19 := by kernel_rfl
    unfold auV Value.formed
    rw [Try.underlying35]
    simp only []
    rw [List.size_toArray, auC_length h, hc6]
    rfl
  refine OkK.of (l := .string (keyBytes ls)) ?_
  unfold keyOf
  rw [Try.underlying35]
  simp only []
  rw [hk, hf]
  show Option.map _ (Try.prog.keyLits (Try.prog.types.size + 1) 35 (auV a).cells.toList) = _
  have e : (auV a).cells.toList = auC a := by simp [auV, Value.cells]
  rw [e, hm, hls]
  rfl
theorem keyedA : Keyed Try.prog 35 :=
  Keyed.of_law (deep_law_laid (by kernel_rfl) (m := 3) (by omega) (by decide +kernel) (by kernel_rfl) (by kernel_rfl))
end Go.Proofs.Ytgamlioahdbikaa
