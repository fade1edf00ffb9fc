/- The walk of base's List. -/
import Derived.Test.YtfpcabfpnekejaaDoorBsc
import Derived.Test.YtfpcabfpnekejaaDoorShi
import Derived.Test.YtfpcabfpnekejaaDoorRow
import Derived.Test.YtfpcabfpnekejaaDoorSlr
import Derived.Test.YtfpcabfpnekejaaDoorBsm
import Derived.Test.YtfpcabfpnekejaaDoorNumW
import Derived.Laws.BitsLemmas
namespace Go.Proofs.YtfpcabfpnekejaaDoor
open Go.RowKit Go.Maps Go.WideMaps
open Go.WideShapes (sorted_perm)

/-! The entries of a map with string keys, in the order of its keys. -/
section
variable {β : Type}
/-- What stands under a key. -/
def lookM (z : β) (M : List (List UInt8 × β)) (x : List UInt8) : β := ((M.find? fun p => decide (p.1 = x)).map (·.2)).getD z
theorem lookM_mem (z : β) : ∀ {M : List (List UInt8 × β)} {x : List UInt8}, x ∈ keysM M → (x, lookM z M x) ∈ M
  | [], x, h => by cases h
  | p :: M, x, h => by
    unfold lookM
    rw [List.find?_cons]
    by_cases e : p.1 = x
    · rw [decide_eq_true e]
      show (x, p.2) ∈ p :: M
      rw [← e]
      exact List.mem_cons_self
    · rw [decide_eq_false e]
      unfold keysM at h
      rw [List.map_cons, List.mem_cons] at h
      exact List.mem_cons_of_mem _ (lookM_mem z (h.resolve_left (fun e2 => e e2.symm)))
theorem lookM_eq (z : β) {M : List (List UInt8 × β)} (hd : (keysM M).Nodup) {p : List UInt8 × β} (hp : p ∈ M) : lookM z M p.1 = p.2 := by
  have h1 := lookM_mem z (mem_keysM.2 ⟨p.2, hp⟩)
  have hpw : M.Pairwise (fun p q => p.1 ≠ q.1) := List.pairwise_map.1 hd
  exact Classical.byContradiction fun hne => by
    have : ∀ M : List (List UInt8 × β), M.Pairwise (fun p q => p.1 ≠ q.1) → ∀ a b : List UInt8 × β, a ∈ M → b ∈ M → a.1 = b.1 → a = b := by
      intro M h
      induction M with
      | nil => intro a b ha; cases ha
      | cons p M ih =>
        obtain ⟨h3, h4⟩ := List.pairwise_cons.1 h
        intro a b ha hb e
        rcases List.mem_cons.1 ha with ea | ha2
        · rcases List.mem_cons.1 hb with eb | hb2
          · rw [ea, eb]
          · exact absurd (by rw [← ea]; exact e) (h3 _ hb2)
        · rcases List.mem_cons.1 hb with eb | hb2
          · exact absurd (by rw [← eb]; exact e.symm) (h3 _ ha2)
          · exact ih h4 a b ha2 hb2 e
    exact hne (congrArg Prod.snd (this M hpw _ _ h1 hp rfl))
theorem lookM_perm (z : β) {M : List (List UInt8 × β)} (hd : (keysM M).Nodup) {ks : List (List UInt8)} (hp : ks.Perm (keysM M)) : (ks.map (lookM z M)).Perm (M.map (·.2)) := by
  refine (hp.map _).trans (List.Perm.of_eq ?_)
  unfold keysM
  rw [List.map_map]
  exact List.map_congr_left fun p hp => lookM_eq z hd hp
theorem strKeys_datM {P : Program} {k : TypeId} {vv : β → Value} (hk : P.underlying k = some .string) {M : List (List UInt8 × β)} (h : FineM P k strV M) : (strKeys (datM P k strV vv M)).Perm (keysM M) := by
  unfold datM strKeys
  refine ((sorted_perm _).map _).trans (List.Perm.of_eq ?_)
  unfold keysM
  rw [List.map_map]
  refine List.map_congr_left fun p hp => ?_
  obtain ⟨s, h1, h2, _⟩ := string_of_keyOf hk (h.2 p.1 (mem_keysM.2 ⟨p.2, hp⟩))
  show strOf (litOf P k strV p.1) = p.1
  rw [h2]
  have h3 := Value.string.inj h1
  show s.data.toList = p.1
  rw [← h3]
/-- Keys that are sorted. -/
def SortedK (ks : List (List UInt8)) : Prop := ks.Pairwise (fun a b => a ≤ b)
theorem sorted_merge (ss : List (List UInt8)) : SortedK (ss.mergeSort (fun x y => decide (x ≤ y))) := by
  have hr : ∀ a b c : List UInt8, decide (a ≤ b) = true → decide (b ≤ c) = true → decide (a ≤ c) = true := fun a b c h1 h2 => by simp only [decide_eq_true_eq] at *; exact List.le_trans h1 h2
  have ho : ∀ a b : List UInt8, (decide (a ≤ b) || decide (b ≤ a)) = true := fun a b => by simp only [Bool.or_eq_true, decide_eq_true_eq]; exact List.le_total a b
  exact (List.pairwise_mergeSort hr ho ss).imp fun h => by simpa using h
theorem none_rowB {a b c : World} {r : Option Nat} (h : a.grownBy b none) (k : b.grownBy c r) (hr : ∀ g, r = some g → a.heap.size ≤ g) : a.grownBy c none := by
  cases r with
  | none => exact grown_trans' h k
  | some g => exact none_new h k (hr g rfl)
/-- What a listing gives: in the order of the keys, each once. -/
def ListedM (M : List (List UInt8 × β)) (ks : List (List UInt8)) : Prop := ks.Perm (keysM M) ∧ SortedK ks
end

/-- The row of keys, as a slice of one cell each. -/
theorem keys_row {w : World} {base : Nat} {t : TypeId} {v : Value} {ks : List (List UInt8)} {n : Nat} (hn : n = ks.length) (h : w.ownsRow base t 1 v n (ks.map Go.Proofs.encStr)) : RowX w base t 1 v (ks.map fun x => [strV x]) := by
  subst hn
  refine ⟨?_, fun c hc => ?_⟩
  · rw [List.length_map]
    have : (ks.map fun x => [strV x]).flatten = ks.map Go.Proofs.encStr := by
      clear h
      induction ks with
      | nil => rfl
      | cons x ks ih => rw [List.map_cons, List.flatten_cons, ih]; rfl
    rw [this]
    exact h
  · obtain ⟨x, _, rfl⟩ := List.mem_map.1 hc
    rfl

end Go.Proofs.YtfpcabfpnekejaaDoor
namespace Go.Proofs.YtfpcabfpnekejaaDoor
open Go.RowKit Go.Maps Go.WideMaps

theorem wrap_small (n : Int) (h0 : -9223372036854775808 ≤ n) (h1 : n ≤ 9223372036854775807) : IntKind.i64.wrap n = n := by
  have h : IntKind.i64.wrap n = if 9223372036854775808 ≤ n % 18446744073709551616 then n % 18446744073709551616 - 18446744073709551616 else n % 18446744073709551616 := by
    simp [IntKind.wrap, IntKind.bits, IntKind.signed]
  rw [h]
  split <;> omega

theorem b64_and15 (n : Int) : bits .and .i64 n 15 = n % 16 := by
  have h127 : (BitVec.ofInt 64 15).toNat = 2 ^ 4 - 1 := by decide
  have key : (BitVec.ofInt 64 n &&& BitVec.ofInt 64 15).toNat = (n % ((2 ^ 64 : Nat) : Int)).toNat % 2 ^ 4 := by
    rw [BitVec.toNat_and, BitVec.toNat_ofInt, h127, Nat.and_two_pow_sub_one_eq_mod]
  show IntKind.i64.wrap ((BitVec.ofInt 64 n &&& BitVec.ofInt 64 15).toNat : Nat) = n % 16
  rw [key, IntKind.wrap_i64]
  omega
theorem b64_and7 (n : Int) : bits .and .i64 n 7 = n % 8 := by
  have h127 : (BitVec.ofInt 64 7).toNat = 2 ^ 3 - 1 := by decide
  have key : (BitVec.ofInt 64 n &&& BitVec.ofInt 64 7).toNat = (n % ((2 ^ 64 : Nat) : Int)).toNat % 2 ^ 3 := by
    rw [BitVec.toNat_and, BitVec.toNat_ofInt, h127, Nat.and_two_pow_sub_one_eq_mod]
  show IntKind.i64.wrap ((BitVec.ofInt 64 n &&& BitVec.ofInt 64 7).toNat : Nat) = n % 8
  rw [key, IntKind.wrap_i64]
  omega

theorem b64_and1 (n : Int) : bits .and .i64 n 1 = n % 2 := by
  have h127 : (BitVec.ofInt 64 1).toNat = 2 ^ 1 - 1 := by decide
  have key : (BitVec.ofInt 64 n &&& BitVec.ofInt 64 1).toNat = (n % ((2 ^ 64 : Nat) : Int)).toNat % 2 ^ 1 := by
    rw [BitVec.toNat_and, BitVec.toNat_ofInt, h127, Nat.and_two_pow_sub_one_eq_mod]
  show IntKind.i64.wrap ((BitVec.ofInt 64 n &&& BitVec.ofInt 64 1).toNat : Nat) = n % 2
  rw [key, IntKind.wrap_i64]
  omega
end Go.Proofs.YtfpcabfpnekejaaDoor
namespace Go.Proofs.YtfpcabfpnekejaaDoor
open Go.ChangeShapes Go.WideShapes Go.RowKit Go.Maps Go.WideMaps

/-- What is known of an entry that came in. -/
structure enW (e : En) : Prop where
  lk : e.2.1.length = 16
  li : -9223372036854775808 ≤ e.2.2.1 ∧ e.2.2.1 ≤ 9223372036854775807
  fl : -9223372036854775808 ≤ e.2.2.2.1 ∧ e.2.2.2.1 ≤ 9223372036854775807
theorem enW.ok {e : En} (h : enW e) (hl : e.1.length ≤ 1000) : enOk e := ⟨hl, h.lk, h.li, h.fl⟩
theorem wf64 {n : Int} (h : (Lit.int .i64 n).wf = true) : -9223372036854775808 ≤ n ∧ n ≤ 9223372036854775807 := by
  have h2 := bounds_i64 h
  exact ⟨by omega, by omega⟩
def byteOfB (v : Value) : UInt8 := match v with
  | .int _ n => UInt8.ofNat n.toNat
  | _ => 0
section
variable {H : Type} {enc : TypeId × Value → H} {w : World} {base : Nat} {spare : Nat → Bool} {held : Bool}
theorem arr_of_trodB {P : Program} {t e : TypeId} {n fuel : Nat} {cs : List Value} {x : DataW H × List MemPlace}
    (ht : P.underlying t = some (.array n e)) (he : P.underlying e = some (.int .u8)) (hce : P.cellsOf e = 1) (hlen0 : cs.length = n) (h : DataW.trod enc P w base spare held fuel t cs = some x) :
    ∃ l : List UInt8, cs = bcells l ∧ l.length = n := by
  obtain ⟨xs, m, _, _, hlen, hxl, hg⟩ := DataW.trod_array ht h
  refine ⟨cs.map byteOfB, ?_, by simp [hlen0]⟩
  apply List.ext_getElem
  · simp [bcells]
  · intro i h1 h2
    have hi : i < n := by omega
    have hx := hg i hi
    rw [hce, Nat.mul_one] at hx
    have hd : (cs.drop i).take 1 = [cs[i]] := by
      rw [List.drop_eq_getElem_cons h1, List.take_succ_cons, List.take_zero]
    rw [hd, List.getElem?_eq_getElem (by omega)] at hx
    obtain ⟨k, hk, _, hwf⟩ := DataW.trod_int he hx
    simp only [List.cons.injEq, and_true] at hk
    have hb := bounds_u8 hwf
    have hk2 : (bcells (cs.map byteOfB))[i]'h2 = Value.int .u8 ((byteOfB cs[i]).toNat : Int) := by simp [bcells]
    rw [hk2, hk]
    congr 1
    simp only [byteOfB]
    rw [UInt8.toNat_ofNat']
    omega
theorem drop_stepB (cs : List Value) (a n : Nat) : cs.drop a = (cs.drop a).take n ++ cs.drop (a + n) := by rw [← List.drop_drop, List.take_append_drop]
abbrev Op9 := Int × En
def op9C (o : Op9) : List Value := [.int .i64 o.1] ++ enC o.2
structure op9W (o : Op9) : Prop where
  k : -9223372036854775808 ≤ o.1 ∧ o.1 ≤ 9223372036854775807
  e : enW o.2
theorem op9C_len {o : Op9} (h : op9W o) : (op9C o).length = 21 := by rw [op9C, List.length_append, enC_length h.e.lk]; rfl
theorem op9C_one (o : Op9) : ∀ u ∈ op9C o, u.oneCell' = true := by
  intro u hu
  rcases List.mem_append.1 hu with hu | hu
  · rw [List.mem_singleton.1 hu]; rfl
  · exact enC_one _ u hu
theorem op9C_k (o : Op9) : (op9C o)[0]? = some (.int .i64 o.1) := rfl
theorem op9C_name (o : Op9) : (op9C o)[1]? = some (.string ⟨o.2.1.toArray⟩) := rfl
theorem op9C_en {o : Op9} (h : op9W o) : ((op9C o).drop 1).take 20 = enC o.2 := by
  show (enC o.2).take 20 = _
  exact List.take_of_length_le (by rw [enC_length h.e.lk]; exact Nat.le_refl _)
end
def zeroO9 : List Value := [.int .i64 0] ++ enC zeroEn
theorem zeroO9_length : zeroO9.length = 21 := by rw [zeroO9, List.length_append, enC_length (zeros_length 16)]; rfl
def longO9 (o : Op9) : Bool := decide (300 < o.2.1.length)
def greatO9 (l : List Op9) : Bool := decide (60 < l.length) || l.any longO9
theorem any_take9 {l : List Op9} {k : Nat} (hk : k < l.length) : (l.take (k + 1)).any longO9 = ((l.take k).any longO9 || longO9 l[k]) := by
  rw [List.take_succ_eq_append_getElem hk, List.any_append]
  simp
theorem great_len9 {l : List Op9} (h : greatO9 l = false) : l.length ≤ 60 := by
  unfold greatO9 at h
  rw [Bool.or_eq_false_iff] at h
  have := of_decide_eq_false h.1
  omega
theorem great_name9 {l : List Op9} (h : greatO9 l = false) {o : Op9} (ho : o ∈ l) : o.2.1.length ≤ 300 := by
  unfold greatO9 at h
  rw [Bool.or_eq_false_iff] at h
  have h2 := h.2
  rw [List.any_eq_false] at h2
  have := h2 o ho
  unfold longO9 at this
  simp at this
  exact this

end Go.Proofs.YtfpcabfpnekejaaDoor
namespace Go.Proofs.YtfpcabfpnekejaaDoor
open Go.RowKit Go.Maps Go.WideMaps

def cellsB (i : Nat) (l : Int) : Array Value := #[.string ⟨(nmB i).toArray⟩, .int .u8 0, .int .u8 0, .int .u8 0, .int .u8 0, .int .u8 0, .int .u8 0, .int .u8 0, .int .u8 0, .int .u8 0, .int .u8 0, .int .u8 0, .int .u8 0, .int .u8 0, .int .u8 0, .int .u8 0, .int .u8 0, .int .i64 l, .int .i64 0, .bool false]
theorem cellsB_eq (i : Nat) (l : Int) : cellsB i l = (enC (enB i l)).toArray := rfl
end Go.Proofs.YtfpcabfpnekejaaDoor
namespace Go.Proofs.YtfpcabfpnekejaaDoor
open Go.RowKit Go.Maps Go.WideMaps

theorem ba_beqB (x y : List UInt8) : ((⟨x.toArray⟩ : ByteArray) == ⟨y.toArray⟩) = decide (x = y) := by
  show (x.toArray == y.toArray) = decide (x = y)
  rw [Bool.eq_iff_iff, decide_eq_true_iff]
  simp
def qEn (x y : En) (f : Field) : Bool := match f.offset with
  | 0 => decide (x.1 = y.1)
  | 1 => decide (x.2.1 = y.2.1)
  | 17 => decide (x.2.2.1 = y.2.2.1)
  | 18 => decide (x.2.2.2.1 = y.2.2.2.1)
  | _ => decide (x.2.2.2.2 = y.2.2.2.2)
theorem sz8B : (Tryd.prog.info? 5).map (·.size) = some 1 := by kernel_rfl
theorem aggKB : AggT Tryd.prog 33 16 := ⟨fun _ => by kernel_rfl, by kernel_rfl⟩
theorem enC_key {u : En} (h : enW u) : ((enC u).drop 1).take 16 = bcells u.2.1 := by
  show (bcells u.2.1 ++ [Value.int .i64 u.2.2.1, .int .i64 u.2.2.2.1, .bool u.2.2.2.2]).take 16 = _
  exact List.take_left' (by rw [bcells_length, h.lk])
theorem run_eqlB (t : TypeId) (A B : Array Value) (w : World) : (binOp .eql t (.agg A) (.agg B)).run Tryd.prog w = ((Op.equalIn 10000 t (.agg A) (.agg B)).run Tryd.prog w).andThen fun q w' => .ok (.bool q) w' := by
  simp [binOp, Op.equal, Op.maxDepth]
theorem enOk.w {e : En} (h : enOk e) : enW e := ⟨h.lk, h.li, h.fl⟩
end Go.Proofs.YtfpcabfpnekejaaDoor
