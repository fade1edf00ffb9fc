/- Principals: their cells, and what a memory of them does, as lists. -/
import Derived.Test.YtfpcabfpnekejaaDoorBsl
import Derived.Test.YtfpcabfpnekejaaDoorRpa
import Derived.Sort.KeysCollected
import Derived.StringKeys
import Derived.Test.YtfpcabfpnekejaaDoorShf
import Derived.Shelf.Strconv.Clone
namespace Go.Proofs.YtfpcabfpnekejaaDoor
open Go.RowKit Go.Maps Go.WideMaps

/-- An entry: name, key, life, flags, out of use. -/
abbrev En := List UInt8 × List UInt8 × Int × Int × Bool
def enC (e : En) : List Value := [.string ⟨e.1.toArray⟩] ++ bcells e.2.1 ++ [.int .i64 e.2.2.1, .int .i64 e.2.2.2.1, .bool e.2.2.2.2]
def enV (e : En) : Value := .agg (enC e).toArray
def strV (l : List UInt8) : Value := .string ⟨l.toArray⟩
theorem strV_inj (a b : List UInt8) (h : strV a = strV b) : a = b := by
  have h1 := Value.string.inj h
  have h2 := congrArg (fun b : ByteArray => b.data.toList) h1
  simpa using h2
structure enOk (e : En) : Prop where
  ln : e.1.length ≤ 1000
  lk : e.2.1.length = 16
  li : -9223372036854775808 ≤ e.2.2.1 ∧ e.2.2.1 ≤ 9223372036854775807
  fl : -9223372036854775808 ≤ e.2.2.2.1 ∧ e.2.2.2.1 ≤ 9223372036854775807
theorem enC_length {e : En} (h : e.2.1.length = 16) : (enC e).length = 20 := by simp [enC, bcells_length, h]
theorem enC_one (e : En) : ∀ u ∈ enC e, u.oneCell' = true := by
  intro u hu
  rcases List.mem_append.1 hu with hu | hu
  · rcases List.mem_append.1 hu with hu | hu
    · rw [List.mem_singleton.1 hu]; rfl
    · exact bcells_one _ u hu
  · simp at hu
    rcases hu with rfl | rfl | rfl <;> rfl
theorem enC_name (e : En) : (enC e)[0]? = some (.string ⟨e.1.toArray⟩) := rfl
theorem enC_life {e : En} (h : e.2.1.length = 16) : (enC e)[17]? = some (.int .i64 e.2.2.1) := by
  unfold enC
  rw [List.getElem?_append_right (by simp [bcells_length, h])]
  simp [bcells_length, h]
theorem enC_flags {e : En} (h : e.2.1.length = 16) : (enC e)[18]? = some (.int .i64 e.2.2.2.1) := by
  unfold enC
  rw [List.getElem?_append_right (by simp [bcells_length, h])]
  simp [bcells_length, h]
theorem enC_off {e : En} (h : e.2.1.length = 16) : (enC e)[19]? = some (.bool e.2.2.2.2) := by
  unfold enC
  rw [List.getElem?_append_right (by simp [bcells_length, h])]
  simp [bcells_length, h]
def zeroEn : En := ([], zeros 16, 0, 0, false)
theorem keyedS : Keyed Tryd.prog 9 := string_keyed Tryd.underlying9
theorem okS (l : List UInt8) (h : l.length ≤ 1000000) : OkK Tryd.prog 9 strV l :=
  OkK.of (keyOf_string_mk Tryd.underlying9 (by show l.toArray.size ≤ maxLen; unfold maxLen; rw [List.size_toArray]; omega))

/-! What is asked. -/
def rightE (e : En) : Bool := parses e.1 && (decide (1 ≤ e.2.2.1) && decide (e.2.2.1 ≤ 1099511627776) && (decide (e.2.2.2.1 = 0) || decide (e.2.2.2.1 = 1)))
abbrev Em := List (List UInt8 × En)
def putE (M : Em) (e : En) : Em × Int :=
  if rightE e = false then (M, 1) else if e.1 ∉ keysM M ∧ 16 ≤ M.length then (M, 2) else (withoutM M e.1 ++ [(e.1, e)], 0)
/-- Each entry stands under its name, and is fine. -/
def EmOk (M : Em) : Prop := ∀ p ∈ M, p.1 = p.2.1 ∧ enOk p.2
theorem without_len (M : Em) (n : List UInt8) : (withoutM M n).length ≤ M.length := List.length_filter_le _ _
theorem without_len_in : ∀ (M : Em) (n : List UInt8), (keysM M).Nodup → n ∈ keysM M → (withoutM M n).length + 1 = M.length
  | [], n, _, h => by simp [keysM] at h
  | p :: M, n, hd, h => by
    unfold keysM at hd h
    rw [List.map_cons, List.nodup_cons] at hd
    rw [List.map_cons, List.mem_cons] at h
    unfold withoutM
    by_cases e : p.1 = n
    · rw [List.filter_cons, if_neg (by simp [e])]
      have : M.filter (fun q => decide (q.1 ≠ n)) = M := List.filter_eq_self.2 fun q hq => by
        refine decide_eq_true fun e2 => hd.1 ?_
        rw [e, ← e2]
        exact List.mem_map.2 ⟨q, hq, rfl⟩
      rw [this, List.length_cons]
    · rw [List.filter_cons, if_pos (by simp [e]), List.length_cons, List.length_cons]
      have ih := without_len_in M n hd.2 (h.resolve_left (fun h2 => e h2.symm))
      unfold withoutM at ih
      omega
theorem without_out (M : Em) (n : List UInt8) (h : n ∉ keysM M) : withoutM M n = M := by
  unfold withoutM
  refine List.filter_eq_self.2 fun q hq => decide_eq_true fun e => h ?_
  rw [← e]
  exact List.mem_map.2 ⟨q, hq, rfl⟩
theorem EmOk.sub {M : Em} (h : EmOk M) (n : List UInt8) : EmOk (withoutM M n) := fun p hp => h p (List.mem_filter.1 hp).1
theorem EmOk.put {M : Em} (h : EmOk M) {e : En} (he : enOk e) : EmOk (putE M e).1 := by
  unfold putE
  split
  · exact h
  · split
    · exact h
    · intro p hp
      rcases List.mem_append.1 hp with hp | hp
      · exact h.sub e.1 p hp
      · rw [List.mem_singleton.1 hp]; exact ⟨rfl, he⟩
theorem key_mem {M : Em} (hd : (keysM M).Nodup) {n : List UInt8} {u v : En} (h1 : (n, u) ∈ M) (h2 : (n, v) ∈ M) : u = v := by
  have hp : M.Pairwise (fun p q => p.1 ≠ q.1) := List.pairwise_map.1 hd
  induction M with
  | nil => cases h1
  | cons p M ih =>
    obtain ⟨h3, h4⟩ := List.pairwise_cons.1 hp
    unfold keysM at hd
    rw [List.map_cons, List.nodup_cons] at hd
    rcases List.mem_cons.1 h1 with e1 | h1
    · rcases List.mem_cons.1 h2 with e2 | h2
      · rw [← e2] at e1; injection e1
      · exact absurd (by rw [← e1]) (h3 _ h2)
    · rcases List.mem_cons.1 h2 with e2 | h2
      · exact absurd (by rw [← e2]) (h3 _ h1)
      · exact ih hd.2 h1 h2 h4
end Go.Proofs.YtfpcabfpnekejaaDoor
namespace Go.Proofs.YtfpcabfpnekejaaDoor
open Go.RowKit Go.Maps Go.WideMaps

theorem szS : (Tryd.prog.info? 9).map (·.size) = some 1 := by kernel_rfl
theorem en_sz {e : En} (h : enOk e) : (⟨e.1.toArray⟩ : ByteArray).size ≤ 1000 := by have := h.ln; show e.1.toArray.size ≤ 1000; rw [List.size_toArray]; exact this

end Go.Proofs.YtfpcabfpnekejaaDoor
namespace Go.Proofs.YtfpcabfpnekejaaDoor
open Go.RowKit Go.Maps Go.WideMaps

/-- What Get answers. -/
def getE (M : Em) (n : List UInt8) (x : En) (B : Bool) : Prop := (∀ v, (n, v) ∈ M → v.2.2.2.2 = false → x = v ∧ B = true) ∧ (∀ v, (n, v) ∈ M → v.2.2.2.2 = true → x = zeroEn ∧ B = false) ∧ (n ∉ keysM M → x = zeroEn ∧ B = false)
end Go.Proofs.YtfpcabfpnekejaaDoor
namespace Go.Proofs.YtfpcabfpnekejaaDoor
open Go.RowKit Go.Maps Go.WideMaps

/-- New memory is made, or one block of the new memory is written, which stays one of n cells. -/
def WrN (B0 : Nat) (t : TypeId) (n : Nat) (x y : World) : Prop := x.grownBy y none ∨ ∃ g, B0 ≤ g ∧ x.grownBy y (some g) ∧ ∃ cs, CB y g t cs ∧ cs.length = n
theorem WrN.refl {B0 n : Nat} {t : TypeId} (x : World) : WrN B0 t n x x := .inl (World.grownBy.refl x _)
theorem WrN.block {B0 n g : Nat} {t : TypeId} {x y : World} {cs : List Value} (h : WrN B0 t n x y) (hc : CB x g t cs) (hl : cs.length = n) : ∃ cs, CB y g t cs ∧ cs.length = n := by
  rcases h with h | ⟨g', _, h2, cs', h3, h4⟩
  · exact ⟨cs, hc.kept h, hl⟩
  · by_cases e : g = g'
    · subst e; exact ⟨cs', h3, h4⟩
    · exact ⟨cs, hc.grown h2 e, hl⟩
theorem over_len (cs p : List Value) (h : p.length ≤ cs.length) : (over cs 0 p).length = cs.length := by
  simp [over]; omega
/-- A region by its operations' duties, whatever may become of the world in them. -/
theorem region_wr {P : Program} {ops : Array Oper} {Q : Exit → Act → World → Prop} {a0 : Act} {id : Nat} {w : World} (n : Nat) (ds : List (Option Tmp)) (T : World → World → Prop) (G : World → Prop) (F : Nat → Value → World → Prop) (hm : P.follows .mixedOrders = true) (hok : Inv.okB ops a0.tmps.size = true) (hn : ops.size = n) (hds : (List.range n).map (Inv.dstOf ops) = ds)
    (hG : ∀ x y, T x y → G x → G y) (hF : ∀ j v x y, T x y → G x → F j v x → F j v y) (h0 : G w.drew)
    (step : Inv.Duties P ops Q a0 T G F n)
    (fin : ∀ vs w', G w' → (∀ i, i < n → F i (vs i) w') → Q .normal (Inv.putAll vs ds 0 a0) w') : (Code.region id ops true).wp P Q a0 w := by
  subst hn
  refine Inv.region_inv T G F hm hok hG hF h0 (Inv.duties_all step) (fun vs w' hg hf => ?_)
  rw [Inv.canon_putAll, hds]
  exact fin vs w' hg hf
/-- 'len(m)', its guard met. -/
theorem wpList_lenMg {P : Program} {k : TypeId} {α β : Type} {kv : α → Value} {vv : β → Value} {M : List (α × β)} {w : World} {ops : Array Oper} {rest : List Oper} {o : Oper} {a : Act} {Q : Exit → Act → World → Prop} {b : Nat} {t e : TypeId}
    (hw : Region.wanted o (yielded ops a.tmps) = true) (m : Operand) (hop : o.op = Op.call { callee := Callee.builtin Builtin.len, args := #[m], argTypes := #[t] }) (ht : P.underlying t = some (.map k e))
    (h : MT P k kv vv w b M) (hm : a.eval m = .map (some b)) (hK : wpList P ops Q rest (a.put o.dst (.int .i64 M.length)) w) : wpList P ops Q (o :: rest) a w := by
  refine wpList_step fun K' hK' => ?_
  rw [if_pos hw]
  unfold Oper.wp
  have := h.2.len ht o.type
  rw [size_datM] at this
  simp [execOp, hop, resolve, invoke, builtin, hm, this, Result.andThen]
  exact hK' _ _ hK
theorem EmOk.put1 {M : Em} (h : EmOk M) {e : En} (he : enOk e) : EmOk (withoutM M e.1 ++ [(e.1, e)]) := by
  intro p hp
  rcases List.mem_append.1 hp with hp | hp
  · exact h.sub e.1 p hp
  · rw [List.mem_singleton.1 hp]; exact ⟨rfl, he⟩

end Go.Proofs.YtfpcabfpnekejaaDoor
