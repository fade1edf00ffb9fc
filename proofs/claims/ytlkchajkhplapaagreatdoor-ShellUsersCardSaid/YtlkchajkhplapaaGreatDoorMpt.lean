/- A map that lies in one block, as a list of typed entries: what each operation makes of it. Plain lemmas, no program. -/
import Derived.Maps.OwnSet
import Derived.Maps.RangeWalk
import Derived.Lib.SlMapFilter
import Derived.Lib.Hide
namespace Go.Proofs.YtlkchajkhplapaaGreatDoor
open Go.RowKit Go.Maps
open Go.ChangeMaps (notKey putKey delKey eq_of_perm_sorted heap_setBlock_same heap_setBlock_other keptBut_setBlock frozen?_setBlock)
open Go.WideShapes (sorted_perm insert_perm)

/-- An element reads as itself. -/
def RV (v : Value) : Option (DataW Value × List MemPlace) := some (.held v, [])

section
variable {P : Program} {k : TypeId} {α β : Type} {kv : α → Value} {vv : β → Value}

def litOf (P : Program) (k : TypeId) (kv : α → Value) (a : α) : Lit := (keyOf P k (kv a)).getD (.bool false)
def OkK (P : Program) (k : TypeId) (kv : α → Value) (a : α) : Prop := keyOf P k (kv a) = some (litOf P k kv a)
theorem OkK.of {a : α} {l : Lit} (h : keyOf P k (kv a) = some l) : OkK P k kv a := by unfold OkK litOf; rw [h]; rfl
def ent (P : Program) (k : TypeId) (kv : α → Value) (vv : β → Value) (p : α × β) : Lit × DataW Value := (litOf P k kv p.1, .held (vv p.2))
def datM (P : Program) (k : TypeId) (kv : α → Value) (vv : β → Value) (M : List (α × β)) : DataW Value := .map ((M.map (ent P k kv vv)).foldr DataW.insert [])
def keysM (M : List (α × β)) : List α := M.map (·.1)

/-- The entries have no key twice, and keys that can be read. -/
def FineM (P : Program) (k : TypeId) (kv : α → Value) (M : List (α × β)) : Prop := (keysM M).Nodup ∧ ∀ a ∈ keysM M, OkK P k kv a

theorem lit_inj (K : Keyed P k) (hi : ∀ a b : α, kv a = kv b → a = b) {a b : α} (ha : OkK P k kv a) (hb : OkK P k kv b) (h : litOf P k kv a = litOf P k kv b) : a = b :=
  hi a b (K.inj ha (h ▸ hb))

variable {M : List (α × β)}
theorem mem_keysM {a : α} : a ∈ keysM M ↔ ∃ v, (a, v) ∈ M := by
  unfold keysM
  rw [List.mem_map]
  constructor
  · rintro ⟨⟨x, v⟩, h, rfl⟩; exact ⟨v, h⟩
  · rintro ⟨v, h⟩; exact ⟨(a, v), h, rfl⟩
theorem FineM.sub {M' : List (α × β)} (h : FineM P k kv M) (hs : M'.Sublist M) : FineM P k kv M' :=
  ⟨List.Sublist.nodup (hs.map _) h.1, fun a ha => h.2 a ((hs.map _).subset ha)⟩
theorem FineM.apart (K : Keyed P k) (hi : ∀ a b : α, kv a = kv b → a = b) (h : FineM P k kv M) : (M.map (ent P k kv vv)).Pairwise (fun p q => p.1 ≠ q.1) := by
  have h1 : M.Pairwise (fun p q => p.1 ≠ q.1) := List.pairwise_map.1 h.1
  refine List.pairwise_map.2 (List.Pairwise.imp_of_mem ?_ h1)
  intro p q hp hq hne e
  exact hne (lit_inj K hi (h.2 _ (List.mem_map.2 ⟨p, hp, rfl⟩)) (h.2 _ (List.mem_map.2 ⟨q, hq, rfl⟩)) e)
theorem FineM.keys (h : FineM P k kv M) : Keys (KeysOf P k) (M.map (ent P k kv vv)) := by
  intro p hp
  obtain ⟨x, hx, rfl⟩ := List.mem_map.1 hp
  exact ⟨kv x.1, h.2 _ (List.mem_map.2 ⟨x, hx, rfl⟩)⟩
theorem size_datM : Maps.size (datM P k kv vv M) = M.length := by
  show ((M.map (ent P k kv vv)).foldr DataW.insert []).length = _
  rw [length_sorted, List.length_map]
section
variable [DecidableEq α]
theorem has_datM (K : Keyed P k) (hi : ∀ a b : α, kv a = kv b → a = b) (h : FineM P k kv M) {a : α} (ha : OkK P k kv a) : Maps.has (datM P k kv vv M) (litOf P k kv a) = decide (a ∈ keysM M) := by
  rw [Bool.eq_iff_iff, decide_eq_true_iff, mem_keysM]
  constructor
  · intro hh
    obtain ⟨p, hp, hs⟩ := List.any_eq_true.1 hh
    obtain ⟨x, hx, rfl⟩ := List.mem_map.1 (mem_sorted.1 hp)
    have := lit_inj K hi (h.2 _ (List.mem_map.2 ⟨x, hx, rfl⟩)) ha (WideAt.sameKey_eq hs)
    exact ⟨x.2, by rw [← this]; exact hx⟩
  · rintro ⟨v, hv⟩
    exact List.any_eq_true.2 ⟨ent P k kv vv (a, v), mem_sorted.2 (List.mem_map.2 ⟨_, hv, rfl⟩), WideAt.sameKey_self (K.key ha)⟩
end
theorem apart_sorted (K : Keyed P k) (hi : ∀ a b : α, kv a = kv b → a = b) (h : FineM P k kv M) : ((M.map (ent P k kv vv)).foldr DataW.insert []).Pairwise (fun p q => p.1 ≠ q.1) :=
  ((sorted_perm _).pairwise_iff (fun {_ _} hne => Ne.symm hne)).2 (h.apart K hi)
theorem at_datM (K : Keyed P k) (hi : ∀ a b : α, kv a = kv b → a = b) (h : FineM P k kv M) {a : α} {v : β} (hm : (a, v) ∈ M) (z : DataW Value) : (datM P k kv vv M).atKey (litOf P k kv a) z = .held (vv v) :=
  WideAt.atKey_mem z (K.key (h.2 a (mem_keysM.2 ⟨v, hm⟩))) (apart_sorted K hi h) (mem_sorted.2 (List.mem_map.2 ⟨_, hm, rfl⟩))

section
variable [DecidableEq α]
/-- All but one key's. -/
def withoutM (M : List (α × β)) (a : α) : List (α × β) := M.filter fun p => decide (p.1 ≠ a)
theorem ent_without (K : Keyed P k) (hi : ∀ a b : α, kv a = kv b → a = b) (h : FineM P k kv M) {a : α} (ha : OkK P k kv a) : (withoutM M a).map (ent P k kv vv) = (M.map (ent P k kv vv)).filter (notKey (litOf P k kv a)) := by
  unfold withoutM
  rw [List.filter_map]
  congr 1
  refine List.filter_congr fun p hp => ?_
  rw [Bool.eq_iff_iff, decide_eq_true_iff]
  show p.1 ≠ a ↔ notKey (litOf P k kv a) (ent P k kv vv p) = true
  rw [Maps.notKey_iff (K.key ha)]
  have hok := h.2 p.1 (List.mem_map.2 ⟨p, hp, rfl⟩)
  exact ⟨fun hne e => hne (lit_inj K hi hok ha e), fun hne e => hne (by rw [← e]; rfl)⟩
theorem without_keys {a : α} (x : α) : x ∈ keysM (withoutM M a) ↔ x ∈ keysM M ∧ x ≠ a := by
  rw [mem_keysM, mem_keysM]
  constructor
  · rintro ⟨v, h⟩
    obtain ⟨h1, h2⟩ := List.mem_filter.1 h
    exact ⟨⟨v, h1⟩, by simpa using h2⟩
  · rintro ⟨⟨v, h⟩, hne⟩
    exact ⟨v, List.mem_filter.2 ⟨h, by simpa using hne⟩⟩
theorem FineM.put (h : FineM P k kv M) {a : α} (ha : OkK P k kv a) (v : β) : FineM P k kv (withoutM M a ++ [(a, v)]) := by
  have h1 := h.sub (M' := withoutM M a) List.filter_sublist
  refine ⟨?_, ?_⟩
  · unfold keysM
    rw [List.map_append]
    refine List.nodup_append.2 ⟨h1.1, by simp, fun x hx y hy e => ?_⟩
    simp at hy
    subst hy e
    exact ((without_keys _).1 hx).2 rfl
  · intro x hx
    unfold keysM at hx
    rw [List.map_append, List.mem_append] at hx
    rcases hx with hx | hx
    · exact h1.2 x hx
    · simp at hx; subst hx; exact ha
theorem put_datM (K : Keyed P k) (hi : ∀ a b : α, kv a = kv b → a = b) (h : FineM P k kv M) {a : α} (ha : OkK P k kv a) (v : β) :
    (datM P k kv vv M).put (litOf P k kv a) (.held (vv v)) = datM P k kv vv (withoutM M a ++ [(a, v)]) := by
  unfold datM
  rw [DataW.put_eq]
  congr 1
  refine (Maps.sorted_put K.one ⟨_, ha⟩ h.keys (h.apart K hi) ?_).symm
  rw [List.map_append, ent_without K hi h ha]
  exact List.perm_append_comm
theorem del_datM (K : Keyed P k) (hi : ∀ a b : α, kv a = kv b → a = b) (h : FineM P k kv M) {a : α} (ha : OkK P k kv a) :
    (datM P k kv vv M).del (litOf P k kv a) = datM P k kv vv (withoutM M a) := by
  unfold datM
  rw [DataW.del_eq]
  congr 1
  refine (Maps.sorted_del K.one h.keys (h.apart K hi) ?_).symm
  rw [ent_without K hi h ha]
end
theorem strike_datM (K : Keyed P k) (hi : ∀ a b : α, kv a = kv b → a = b) (h : FineM P k kv M) (pd : Lit → DataW Value → Bool) (q : α × β → Bool) (hq : ∀ p ∈ M, pd (litOf P k kv p.1) (.held (vv p.2)) = q p) :
    Lib.deleteFuncD pd (datM P k kv vv M) = datM P k kv vv (M.filter fun p => !q p) := by
  show DataW.map (((M.map (ent P k kv vv)).foldr DataW.insert []).filter fun p => !pd p.1 p.2) = DataW.map (((M.filter fun p => !q p).map (ent P k kv vv)).foldr DataW.insert [])
  congr 1
  have hM' := h.sub (M' := M.filter fun p => !q p) List.filter_sublist
  have s1 := sorted_sorted K.one _ (h.keys (vv := vv)) (h.apart K hi)
  have s2 := sorted_sorted K.one _ (hM'.keys (vv := vv)) (hM'.apart K hi)
  refine eq_of_perm_sorted ?_ (s1.filter _) s2
  refine ((sorted_perm _).filter _).trans (List.Perm.trans ?_ (sorted_perm _).symm)
  rw [List.filter_map]
  have : (M.filter ((fun p : Lit × DataW Value => !pd p.1 p.2) ∘ ent P k kv vv)) = M.filter fun p => !q p := List.filter_congr fun p hp => by
    show (!pd (litOf P k kv p.1) (.held (vv p.2))) = _
    rw [hq p hp]
  rw [this]

/-- BLOCK b OF w IS A MAP OF JUST THESE ENTRIES. -/
def MT (P : Program) (k : TypeId) (kv : α → Value) (vv : β → Value) (w : World) (b : Nat) (M : List (α × β)) : Prop := FineM P k kv M ∧ w.ownsMap P k RV b M.length (datM P k kv vv M)

theorem own_tight {H : Type} {R : Value → Option (DataW H × List MemPlace)} {w : World} {b n : Nat} {D : DataW H} (h : w.ownsMap P k R b n D) : w.ownsMap P k R b (Maps.size D) D := by
  obtain ⟨es, clock, hb, F, hs, rfl⟩ := h
  exact ⟨es, clock, hb, F, by simp [Maps.size, length_sorted], rfl⟩
theorem MT.mk {w : World} {b n : Nat} {D : DataW Value} (hf : FineM P k kv M) (h : w.ownsMap P k RV b n D) (hD : D = datM P k kv vv M) : MT P k kv vv w b M :=
  ⟨hf, by have := own_tight h; rw [hD, size_datM] at this; exact this⟩
theorem MT.made (w : World) : MT P k kv vv (w.alloc (.map #[] 0)) w.heap.size [] :=
  ⟨⟨List.nodup_nil, fun _ h => by cases h⟩, World.ownsMap_made w P k RV⟩
theorem MT.lt {w : World} {b : Nat} (h : MT P k kv vv w b M) : b < w.heap.size := h.2.lt
theorem MT.kept {w w' : World} {b : Nat} {row : Option Nat} (h : MT P k kv vv w b M) (hg : w.grownBy w' row) (hne : some b ≠ row) : MT P k kv vv w' b M := ⟨h.1, h.2.kept hg hne⟩
theorem MT.none {w w' : World} {b : Nat} (h : MT P k kv vv w b M) (hg : w.grownBy w' none) : MT P k kv vv w' b M := h.kept hg (by simp)
theorem MT.alloc {w : World} {b : Nat} (h : MT P k kv vv w b M) (o : Obj) : MT P k kv vv (w.alloc o) b M := ⟨h.1, h.2.alloc o⟩
theorem MT.below {w w' : World} {b B : Nat} (h : MT P k kv vv w b M) (hb : b < B) (hg : Below B w w') : MT P k kv vv w' b M := by
  obtain ⟨hf, es, clock, h1, r⟩ := h
  exact ⟨hf, es, clock, (hg.block b hb).trans h1, r⟩

/-- 'clear(m)'. -/
theorem MT.clear {w : World} {b : Nat} (h : MT P k kv vv w b M) {t e : TypeId} (ht : P.underlying t = some (.map k e)) (ty : TypeId) :
    ∃ w', (Builtin.clear_ #[t] ty #[.map (some b)]).run P w = .ok (.tuple #[]) w' ∧ MT P k kv vv w' b ([] : List (α × β)) ∧ w.mapTurned w' b := by
  obtain ⟨_, es, clock, hb, _, _, _⟩ := h
  refine ⟨_, ?_, ⟨⟨List.nodup_nil, fun _ h => by cases h⟩, #[], clock, heap_setBlock_same hb _, ⟨by simp, MapKept.stamped_empty clock, by simp⟩, Nat.le_refl _, rfl⟩, ⟨es, clock, #[], clock, hb, rfl⟩⟩
  simp [Builtin.clear_, run_underlying ht, MapKept.run_getObj_map hb, MapKept.run_setObj_map _ hb, Result.andThen, ChangeMaps.setBlock]

section
variable {w : World} {ops : Array Oper} {rest : List Oper} {o : Oper} {a : Act} {Q : Exit → Act → World → Prop} {b : Nat} {t e : TypeId}

section
variable [DecidableEq α]
/-- 'v, ok := m[k]', the key is there. -/
theorem wpList_lookIn (K : Keyed P k) (hi : ∀ a b : α, kv a = kv b → a = b) (hg : o.guard = none) (m x : Operand) (hop : o.op = Op.lookup t m x true) (ht : P.underlying t = some (.map k e)) {z : Value} (hz : ∀ w, (zeroValue e).run P w = .ok z w)
    (h : MT P k kv vv w b M) (hm : a.eval m = .map (some b)) (ky : α) (v : β) (hx : a.eval x = kv ky) (hin : (ky, v) ∈ M)
    (hK : wpList P ops Q rest (a.put o.dst (.tuple #[vv v, .bool true])) w) : wpList P ops Q (o :: rest) a w := by
  have hok : OkK P k kv ky := h.1.2 ky (mem_keysM.2 ⟨v, hin⟩)
  refine wpList_lookup_own_ok w hg m x t hop k e K ht RV (hz w) (.held z) [] rfl b M.length _ hm h.2 _ _ hx hok (fun u ps hu => ?_)
  rw [at_datM K hi h.1 hin] at hu
  unfold RV at hu
  simp at hu
  rw [hu.1, has_datM K hi h.1 hok, decide_eq_true (mem_keysM.2 ⟨v, hin⟩)]
  exact hK
/-- .. it isn't. -/
theorem wpList_lookOut (K : Keyed P k) (hi : ∀ a b : α, kv a = kv b → a = b) (hg : o.guard = none) (m x : Operand) (hop : o.op = Op.lookup t m x true) (ht : P.underlying t = some (.map k e)) {z : Value} (hz : ∀ w, (zeroValue e).run P w = .ok z w)
    (h : MT P k kv vv w b M) (hm : a.eval m = .map (some b)) (ky : α) (hok : OkK P k kv ky) (hx : a.eval x = kv ky) (hout : ky ∉ keysM M)
    (hK : wpList P ops Q rest (a.put o.dst (.tuple #[z, .bool false])) w) : wpList P ops Q (o :: rest) a w := by
  have hh : Maps.has (datM P k kv vv M) (litOf P k kv ky) = false := by rw [has_datM K hi h.1 hok]; exact decide_eq_false hout
  refine wpList_lookup_own_ok w hg m x t hop k e K ht RV (hz w) (.held z) [] rfl b M.length _ hm h.2 _ _ hx hok (fun u ps hu => ?_)
  rw [Maps.atKey_of_not_has hh] at hu
  unfold RV at hu
  simp at hu
  rw [hu.1, hh]
  exact hK
end
/-- 'len(m)'. -/
theorem wpList_lenM (hg : o.guard = none) (m : Operand) (hop : o.op = Op.call { callee := Callee.builtin Builtin.len, args := #[m], argTypes := #[t] }) (ht : P.underlying t = some (.map k e))
    (h : MT P k kv vv w b M) (hm : a.eval m = .map (some b)) (hK : wpList P ops Q rest (a.put o.dst (.int .i64 M.length)) w) : wpList P ops Q (o :: rest) a w := by
  refine wpList_len_own w hg m t hop k e ht RV b M.length _ hm h.2 ?_
  rw [size_datM]
  exact hK
section
variable [DecidableEq α]
/-- 'm[k] = v'. -/
theorem wpList_putM (K : Keyed P k) (hi : ∀ a b : α, kv a = kv b → a = b) (hg : o.guard = none) (m x v : Operand) (hop : o.op = Op.mapUpdate t m x v) (ht : P.underlying t = some (.map k e))
    (h : MT P k kv vv w b M) (hn : M.length < maxLen) (hm : a.eval m = .map (some b)) (ky : α) (vl : β) (hok : OkK P k kv ky) (hx : a.eval x = kv ky) (hv : a.eval v = vv vl)
    (hK : ∀ w', MT P k kv vv w' b (withoutM M ky ++ [(ky, vl)]) → w.mapTurned w' b → wpList P ops Q rest (a.put o.dst undef) w') : wpList P ops Q (o :: rest) a w := by
  refine wpList_mapUpdate_in w hg m x v t hop k e K ht RV b M.length _ hm h.2 hn _ _ _ hx hv hok (.held (vv vl)) [] rfl (fun w' h1 h2 => hK w' ?_ h2)
  exact MT.mk (h.1.put hok vl) h1 (put_datM K hi h.1 hok vl)
/-- 'delete(m, k)'. -/
theorem wpList_delM (K : Keyed P k) (hi : ∀ a b : α, kv a = kv b → a = b) (hg : o.guard = none) (m x : Operand) (hop : o.op = Op.call { callee := Callee.builtin Builtin.delete, args := #[m, x], argTypes := #[t, k] }) (ht : P.underlying t = some (.map k e))
    (h : MT P k kv vv w b M) (hm : a.eval m = .map (some b)) (ky : α) (hok : OkK P k kv ky) (hx : a.eval x = kv ky)
    (hK : ∀ w', MT P k kv vv w' b (withoutM M ky) → w.mapTurned w' b → wpList P ops Q rest (a.put o.dst (.tuple #[])) w') : wpList P ops Q (o :: rest) a w := by
  refine wpList_delete_own w hg m x t k hop e K ht RV b M.length _ hm h.2 _ _ hx hok (fun w' h1 h2 => hK w' ?_ h2)
  exact MT.mk (h.1.sub List.filter_sublist) h1 (del_datM K hi h.1 hok)
end
/-- 'clear(m)'. -/
theorem wpList_clearM (hg : o.guard = none) (m : Operand) (hop : o.op = Op.call { callee := Callee.builtin Builtin.clear, args := #[m], argTypes := #[t] }) (ht : P.underlying t = some (.map k e))
    (h : MT P k kv vv w b M) (hm : a.eval m = .map (some b))
    (hK : ∀ w', MT P k kv vv w' b ([] : List (α × β)) → w.mapTurned w' b → wpList P ops Q rest (a.put o.dst (.tuple #[])) w') : wpList P ops Q (o :: rest) a w := by
  refine wpList_plain hg fun K' hK' => ?_
  obtain ⟨w', hrun, r1, r2⟩ := h.clear ht o.type
  unfold Oper.wp
  simp [execOp, hop, resolve, invoke, builtin, hm, hrun, Result.andThen]
  exact hK' _ _ (hK w' r1 r2)
end
end
end Go.Proofs.YtlkchajkhplapaaGreatDoor
