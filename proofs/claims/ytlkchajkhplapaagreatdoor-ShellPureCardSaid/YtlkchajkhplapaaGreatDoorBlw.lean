/- Regions that leave their order open, of operations that only make memory or read what stays: one order at a time, the world only growing. Plain lemmas, no program. -/
import Derived.Test.YtlkchajkhplapaaGreatDoorLib
import Derived.Deep.RegionHeld
namespace Go.Proofs.YtlkchajkhplapaaGreatDoor
open Go.RowKit

/-- All that was there in w is in x as it was. -/
def From (w x : World) : Prop := Below w.heap.size w x
theorem From.refl (w : World) : From w w := Below.refl _ _
theorem From.drew (w : World) : From w w.drew := (Below.refl _ _).drew
theorem From.trans {a b c : World} (h : From a b) (k : From b c) : From a c := Below.trans h (Below.mono k h.size)

section
variable {P : Program} {ops : Array Oper} {Q : Exit → Act → World → Prop} {md : Region.Mode} {S S' : World → Prop}

theorem held_mono (h : ∀ w, S' w → S w) : ∀ (fuel : Nat) (listed : Array Bool) (a : Act) (w : World), wpAnyH P md ops Q S' fuel listed a w → wpAnyH P md ops Q S fuel listed a w
  | 0, _, _, _, k => k
  | fuel + 1, _, _, _, k => ⟨k.1, fun i hi => wpOp_mono (fun a' w' k' => ⟨h w' k'.1, held_mono h fuel _ a' w' k'.2⟩) (k.2 i hi)⟩

/-- The beginning. -/
theorem held_begin {id : Nat} {a : Act} {w : World} (hm : P.follows .mixedOrders = true)
    (h : wpAnyH P .any ops Q (From w.drew) ops.size (Array.replicate ops.size false) a w.drew) : (Code.region id ops true).wp P Q a w :=
  wp_region_held hm h

/-- An operation that yields its value in every later world, or that its guard passes over, is taken first. -/
theorem held_take {i : Nat} {oi : Oper} {d : Option Tmp} {v : Value} {fuel : Nat} {listed : Array Bool} {a : Act} {w : World} (hi : ops[i]? = some oi) (hd : oi.dst = d)
    (hc : (Region.noSelect ops && Region.free md ops listed i && (Region.ready md ops listed).contains i) = true)
    (hQ : ∀ c a w, Q (.panic c) (a.put d v) w → Q (.panic c) a w)
    (hy : YieldsIf P ops (From w) oi v a)
    (h : wpAnyH P md ops Q (From w) fuel (listed.setIfInBounds i true) (a.put d v) w) : wpAnyH P md ops Q (From w) (fuel + 1) listed a w := by
  subst hd
  simp only [Bool.and_eq_true] at hc
  exact wpAnyH_take hi hc.1.1 hc.1.2 hc.2 hQ hy (From.refl w) h

/-- An operation that its guard passes over. -/
theorem held_skip {i : Nat} {oi : Oper} {d : Option Tmp} {fuel : Nat} {listed : Array Bool} {a : Act} {w : World} (hi : ops[i]? = some oi) (hd : oi.dst = d)
    (hc : (Region.noSelect ops && Region.free md ops listed i && (Region.ready md ops listed).contains i) = true)
    (hQ : ∀ c a w, Q (.panic c) (a.put d undef) w → Q (.panic c) a w)
    (hw : Region.wanted oi (yielded ops a.tmps) = false)
    (h : wpAnyH P md ops Q (From w) fuel (listed.setIfInBounds i true) (a.put d undef) w) : wpAnyH P md ops Q (From w) (fuel + 1) listed a w :=
  held_take hi hd hc hQ (.inr ⟨hw, rfl⟩) h

/-- The one operation that may come up, carried out: from its end on all that is there then stays. -/
theorem held_one {i : Nat} {o : Oper} {fuel : Nat} {listed : Array Bool} {a : Act} {w : World} (hi : ops[i]? = some o)
    (hr : Region.ready md ops listed = [i]) (hw : Region.wanted o (yielded ops a.tmps) = true)
    (h : ∀ K : Act → World → Prop, Shut (∀ a' w', From w w' → wpAnyH P md ops Q (From w') fuel (listed.setIfInBounds i true) a' w' → K a' w') → o.wp P a w K Q) :
    wpAnyH P md ops Q (From w) (fuel + 1) listed a w := by
  refine wpAnyH_all hr (by simp) fun j hj => ?_
  obtain rfl : j = i := by simpa using hj
  unfold wpOp
  rw [hi]
  simp only [hw, if_true]
  exact .inl (h _ fun a' w' hf hh => ⟨hf, held_mono (fun x hx => hf.trans hx) _ _ _ _ hh⟩)

theorem held_end {listed : Array Bool} {a : Act} {w : World} (hr : Region.ready md ops listed = []) (h : Q .normal a w) (fuel : Nat) : wpAnyH P md ops Q S fuel listed a w :=
  wpAnyH_done hr h fuel
end

/-- What a slice reads as, as a string, in every later world. -/
theorem str_from {P : Program} {t e dst : TypeId} (hT : ByteT P t e) (hd : P.underlying dst = some .string) {w : World} {B : Nat} {A : Option Addr} {l : List UInt8} {c : Nat} (hr : RB w B A l c) (hB : B ≤ w.heap.size) :
    ∀ wx, From w wx → (convert t dst (.slice A l.length c)).run P wx = .ok (.string ⟨l.toArray⟩) wx :=
  fun _ hx => run_strB hT hd ((hr.more hB).below hx)
theorem From.undrew {w x : World} (h : From w.drew x) : From w x := ⟨h.os, h.tape, h.output, h.size, h.block⟩

/-! The same where one block may be written besides. -/
section
variable {P : Program} {ops : Array Oper} {Q : Exit → Act → World → Prop} {md : Region.Mode} {r : Option Nat}
theorem heldx_begin (r : Option Nat) {id : Nat} {a : Act} {w : World} (hm : P.follows .mixedOrders = true)
    (h : wpAnyH P .any ops Q (fun x => w.drew.grownBy x r) ops.size (Array.replicate ops.size false) a w.drew) : (Code.region id ops true).wp P Q a w :=
  wp_region_held hm h
theorem heldx_take {i : Nat} {oi : Oper} {d : Option Tmp} {v : Value} {fuel : Nat} {listed : Array Bool} {a : Act} {w : World} (hi : ops[i]? = some oi) (hd : oi.dst = d)
    (hc : (Region.noSelect ops && Region.free md ops listed i && (Region.ready md ops listed).contains i) = true)
    (hQ : ∀ c a w, Q (.panic c) (a.put d v) w → Q (.panic c) a w)
    (hy : YieldsIf P ops (fun x => w.grownBy x r) oi v a)
    (h : wpAnyH P md ops Q (fun x => w.grownBy x r) fuel (listed.setIfInBounds i true) (a.put d v) w) : wpAnyH P md ops Q (fun x => w.grownBy x r) (fuel + 1) listed a w := by
  subst hd
  simp only [Bool.and_eq_true] at hc
  exact wpAnyH_take hi hc.1.1 hc.1.2 hc.2 hQ hy (World.grownBy.refl w r) h
theorem heldx_skip {i : Nat} {oi : Oper} {d : Option Tmp} {fuel : Nat} {listed : Array Bool} {a : Act} {w : World} (hi : ops[i]? = some oi) (hd : oi.dst = d)
    (hc : (Region.noSelect ops && Region.free md ops listed i && (Region.ready md ops listed).contains i) = true)
    (hQ : ∀ c a w, Q (.panic c) (a.put d undef) w → Q (.panic c) a w)
    (hw : Region.wanted oi (yielded ops a.tmps) = false)
    (h : wpAnyH P md ops Q (fun x => w.grownBy x r) fuel (listed.setIfInBounds i true) (a.put d undef) w) : wpAnyH P md ops Q (fun x => w.grownBy x r) (fuel + 1) listed a w :=
  heldx_take hi hd hc hQ (.inr ⟨hw, rfl⟩) h
theorem heldx_one {i : Nat} {o : Oper} {d : Option Tmp} {fuel : Nat} {listed : Array Bool} {a : Act} {w : World} (hi : ops[i]? = some o)
    (hr : Region.ready md ops listed = [i]) (hw : Region.wanted o (yielded ops a.tmps) = true) (_hd : o.dst = d)
    (h : ∀ K : Act → World → Prop, Shut (∀ a' w', w.grownBy w' r → wpAnyH P md ops Q (fun x => w'.grownBy x r) fuel (listed.setIfInBounds i true) a' w' → K a' w') → o.wp P a w K Q) :
    wpAnyH P md ops Q (fun x => w.grownBy x r) (fuel + 1) listed a w := by
  refine wpAnyH_all hr (by simp) fun j hj => ?_
  obtain rfl : j = i := by simpa using hj
  unfold wpOp
  rw [hi]
  simp only [hw, if_true]
  exact .inl (h _ fun a' w' hf hh => ⟨hf, held_mono (fun x hx => hf.trans hx) _ _ _ _ hh⟩)
end
theorem grown_of_below {w x : World} (h : Below w.heap.size w x) (r : Option Nat) : w.grownBy x r := ⟨h.os, h.tape, h.output, h.size, fun k hk _ => h.block k hk⟩
theorem grown_set (w : World) (g o : Nat) (u : Value) : w.grownBy (w.setCell ⟨g, o, none⟩ u) (some g) :=
  ⟨rfl, rfl, rfl, by simp [World.setCell], fun k _ hne => Below.heap_setCell w ⟨g, o, none⟩ u k (fun e => hne (by rw [e]))⟩
/-- What a slice reads as, where only blocks from its bound on are written. -/
theorem RB.row {w x : World} {B : Nat} {A : Option Addr} {l : List UInt8} {c : Nat} {r : Option Nat} (h : RB w B A l c) (hg : w.grownBy x r) (hB : B ≤ w.heap.size) (hr : ∀ g, r = some g → B ≤ g) : RB x B A l c := h.grown hg hB hr

/-! The same where all below a block's number stays, whatever is written from there on. -/
section
variable {P : Program} {ops : Array Oper} {Q : Exit → Act → World → Prop} {md : Region.Mode} {B : Nat} {w0 : World}
theorem heldb_begin (B : Nat) {id : Nat} {a : Act} {w : World} (hm : P.follows .mixedOrders = true)
    (h : Below B w.drew w.drew → wpAnyH P .any ops Q (fun x => Below B w.drew x) ops.size (Array.replicate ops.size false) a w.drew) : (Code.region id ops true).wp P Q a w :=
  wp_region_held hm (h (Below.refl _ _))
theorem heldb_take {i : Nat} {oi : Oper} {d : Option Tmp} {v : Value} {fuel : Nat} {listed : Array Bool} {a : Act} {w : World} (hS : Below B w0 w) (hi : ops[i]? = some oi) (hd : oi.dst = d)
    (hc : (Region.noSelect ops && Region.free md ops listed i && (Region.ready md ops listed).contains i) = true)
    (hQ : ∀ c a w, Q (.panic c) (a.put d v) w → Q (.panic c) a w)
    (hy : YieldsIf P ops (fun x => Below B w0 x) oi v a)
    (h : wpAnyH P md ops Q (fun x => Below B w0 x) fuel (listed.setIfInBounds i true) (a.put d v) w) : wpAnyH P md ops Q (fun x => Below B w0 x) (fuel + 1) listed a w := by
  subst hd
  simp only [Bool.and_eq_true] at hc
  exact wpAnyH_take hi hc.1.1 hc.1.2 hc.2 hQ hy hS h
theorem heldb_skip {i : Nat} {oi : Oper} {d : Option Tmp} {fuel : Nat} {listed : Array Bool} {a : Act} {w : World} (hS : Below B w0 w) (hi : ops[i]? = some oi) (hd : oi.dst = d)
    (hc : (Region.noSelect ops && Region.free md ops listed i && (Region.ready md ops listed).contains i) = true)
    (hQ : ∀ c a w, Q (.panic c) (a.put d undef) w → Q (.panic c) a w)
    (hw : Region.wanted oi (yielded ops a.tmps) = false)
    (h : wpAnyH P md ops Q (fun x => Below B w0 x) fuel (listed.setIfInBounds i true) (a.put d undef) w) : wpAnyH P md ops Q (fun x => Below B w0 x) (fuel + 1) listed a w :=
  heldb_take hS hi hd hc hQ (.inr ⟨hw, rfl⟩) h
theorem heldb_one {i : Nat} {o : Oper} {fuel : Nat} {listed : Array Bool} {a : Act} {w : World} (hi : ops[i]? = some o)
    (hr : Region.ready md ops listed = [i]) (hw : Region.wanted o (yielded ops a.tmps) = true)
    (h : ∀ K : Act → World → Prop, Shut (∀ a' w', Below B w0 w' → (Below B w0 w' → wpAnyH P md ops Q (fun x => Below B w0 x) fuel (listed.setIfInBounds i true) a' w') → K a' w') → o.wp P a w K Q) :
    wpAnyH P md ops Q (fun x => Below B w0 x) (fuel + 1) listed a w := by
  refine wpAnyH_all hr (by simp) fun j hj => ?_
  obtain rfl : j = i := by simpa using hj
  unfold wpOp
  rw [hi]
  simp only [hw, if_true]
  exact .inl (h _ fun a' w' hf hh => ⟨hf, hh hf⟩)
end

/-- 'append(s, x...)' over bytes, carried out in such a region. -/
theorem wp_appB {P : Program} {w : World} {o : Oper} {d : Option Tmp} {a : Act} {K : Act → World → Prop} {Q : Exit → Act → World → Prop} {t e : TypeId} (hT : ByteT P t e) (hd : o.dst = d) (s x : Operand)
    (ho : o.op = .call { callee := .builtin .append, args := #[s, x], argTypes := #[t, t] })
    {base : Nat} {v : Value} {l : List UInt8} (hown : OwnB w base e v l) {B : Nat} {A : Option Addr} {news : List UInt8} {c : Nat} (hr : RB w B A news c)
    (hs : a.eval s = v) (hx : a.eval x = .slice A news.length c) (hlen : l.length + news.length ≤ 140737488355328) (hbase : base ≤ w.heap.size)
    (h : ∀ v' w', OwnB w' base e v' (l ++ news) → w.grownBy w' v.ownBlock → (v'.ownBlock = v.ownBlock ∨ v'.ownBlock = some w.heap.size) → K (a.put d v') w') : o.wp P a w K Q := by
  subst hd
  obtain ⟨v', w', hrun, h2, h3, h4, h5⟩ := run_appB hT o.type hown hr hlen hbase
  unfold Oper.wp execOp
  simp only [ho, resolve, invoke, builtin, Sem.run_bind, Sem.run_pure, Result.andThen_ok, List.map_toArray, List.map_cons, List.map_nil, hs, hx, hrun]
  exact h v' w' h2 h3 h5
theorem below_undrew {B : Nat} {w w' : World} (h : Below B w.drew w') : Below B w w' := ⟨h.os, h.tape, h.output, h.size, h.block⟩
theorem below_dd {B : Nat} {w w' : World} (h : Below B w w') : Below B w.drew w'.drew := ⟨h.os, h.tape, h.output, h.size, h.block⟩

/-! The same under whatever is said of the world. -/
section
variable {P : Program} {ops : Array Oper} {Q : Exit → Act → World → Prop} {md : Region.Mode} {S : World → Prop}
theorem helds_begin (S : World → Prop) {id : Nat} {a : Act} {w : World} (hm : P.follows .mixedOrders = true) (hS : S w.drew)
    (h : S w.drew → wpAnyH P .any ops Q S ops.size (Array.replicate ops.size false) a w.drew) : (Code.region id ops true).wp P Q a w :=
  wp_region_held hm (h hS)
theorem helds_take {i : Nat} {oi : Oper} {d : Option Tmp} {v : Value} {fuel : Nat} {listed : Array Bool} {a : Act} {w : World} (hS : S w) (hi : ops[i]? = some oi) (hd : oi.dst = d)
    (hc : (Region.noSelect ops && Region.free md ops listed i && (Region.ready md ops listed).contains i) = true)
    (hQ : ∀ c a w, Q (.panic c) (a.put d v) w → Q (.panic c) a w)
    (hy : YieldsIf P ops S oi v a)
    (h : wpAnyH P md ops Q S fuel (listed.setIfInBounds i true) (a.put d v) w) : wpAnyH P md ops Q S (fuel + 1) listed a w := by
  subst hd
  simp only [Bool.and_eq_true] at hc
  exact wpAnyH_take hi hc.1.1 hc.1.2 hc.2 hQ hy hS h
theorem helds_skip {i : Nat} {oi : Oper} {d : Option Tmp} {fuel : Nat} {listed : Array Bool} {a : Act} {w : World} (hS : S w) (hi : ops[i]? = some oi) (hd : oi.dst = d)
    (hc : (Region.noSelect ops && Region.free md ops listed i && (Region.ready md ops listed).contains i) = true)
    (hQ : ∀ c a w, Q (.panic c) (a.put d undef) w → Q (.panic c) a w)
    (hw : Region.wanted oi (yielded ops a.tmps) = false)
    (h : wpAnyH P md ops Q S fuel (listed.setIfInBounds i true) (a.put d undef) w) : wpAnyH P md ops Q S (fuel + 1) listed a w :=
  helds_take hS hi hd hc hQ (.inr ⟨hw, rfl⟩) h
theorem helds_one {i : Nat} {o : Oper} {fuel : Nat} {listed : Array Bool} {a : Act} {w : World} (hi : ops[i]? = some o)
    (hr : Region.ready md ops listed = [i]) (hw : Region.wanted o (yielded ops a.tmps) = true)
    (h : ∀ K : Act → World → Prop, Shut (∀ a' w', S w' → (S w' → wpAnyH P md ops Q S fuel (listed.setIfInBounds i true) a' w') → K a' w') → o.wp P a w K Q) :
    wpAnyH P md ops Q S (fuel + 1) listed a w := by
  refine wpAnyH_all hr (by simp) fun j hj => ?_
  obtain rfl : j = i := by simpa using hj
  unfold wpOp
  rw [hi]
  simp only [hw, if_true]
  exact .inl (h _ fun a' w' hf hh => ⟨hf, hh hf⟩)
end
theorem grown_new {a b c : World} {r : Option Nat} {g : Nat} (h : a.grownBy b r) (k : b.grownBy c (some g)) (hg : a.heap.size ≤ g) : a.grownBy c r :=
  ⟨k.os.trans h.os, k.tape.trans h.tape, k.output.trans h.output, Nat.le_trans h.size k.size, fun i hi hne => (k.block i (Nat.lt_of_lt_of_le hi h.size) (fun e => by injection e with e; omega)).trans (h.block i hi hne)⟩
theorem grown_drew {a b : World} {r : Option Nat} (h : a.grownBy b r) : a.grownBy b.drew r := ⟨h.os, h.tape, h.output, h.size, h.block⟩
theorem grown_undrew {a b : World} {r : Option Nat} (h : a.drew.grownBy b r) : a.grownBy b r := ⟨h.os, h.tape, h.output, h.size, h.block⟩
end Go.Proofs.YtlkchajkhplapaaGreatDoor
namespace Go.Proofs.YtlkchajkhplapaaGreatDoor
open Go.RowKit

/-- Block g, of type t, holds the bytes l and nothing else. -/
def BB (w : World) (g : Nat) (t : TypeId) (l : List UInt8) : Prop := w.heap[g]? = some (.cells (bcells l).toArray t (0, 0))

section
variable {w w' : World} {g : Nat} {t : TypeId} {l : List UInt8}
theorem BB.lt (h : BB w g t l) : g < w.heap.size := (Array.getElem?_eq_some_iff.1 h).1
theorem BB.new (w : World) (t : TypeId) (l : List UInt8) : BB (w.alloc (.cells (bcells l).toArray t)) w.heap.size t l := heap_alloc_new w _
theorem BB.below {B : Nat} (h : BB w g t l) (hb : Below B w w') (hg : g < B) : BB w' g t l := (hb.block g hg).trans h
theorem BB.alloc (h : BB w g t l) (o : Obj) : BB (w.alloc o) g t l := (Below.heap_alloc w o g h.lt).trans h
theorem BB.drew (h : BB w g t l) : BB w.drew g t l := h
theorem BB.drewN (h : BB w g t l) (n : Nat) : BB (w.drewN n) g t l := h
theorem BB.far (h : BB w g t l) {p : Addr} (hp : g ≠ p.block) (u : Value) : BB (w.setCell p u) g t l := (Below.heap_setCell w p u g hp).trans h
theorem BB.at_ (h : BB w g t l) {i : Nat} {u : UInt8} (hu : l[i]? = some u) : w.cell? ⟨g, i, none⟩ = some (.int .u8 (u.toNat : Int)) := by
  rw [cell_of_row w g i _ t (0, 0) h, List.getElem?_toArray, bcells_at, hu]
  rfl
theorem BB.cell (h : BB w g t l) {i : Nat} (hi : i < l.length) : w.cell? ⟨g, i, none⟩ = some (.int .u8 (l[i].toNat : Int)) := h.at_ (List.getElem?_eq_getElem hi)
theorem BB.free (h : BB w g t l) (i : Nat) : w.frozen? ⟨g, i, none⟩ = false := frozen_of_row w g i _ t h
theorem BB.set_ (h : BB w g t l) (i : Nat) (u : UInt8) (x : Int) (hx : x = (u.toNat : Int)) : BB (w.setCell ⟨g, i, none⟩ (.int .u8 x)) g t (l.set i u) := by
  subst hx
  unfold BB
  rw [heap_setCell_same w g i _ t _ h]
  congr 2
  simp [bcells, List.map_set]
end

/-! Lists that are laid piece by piece: the first k of a, behind them what b has. -/
def mix {α : Type} (a b : List α) (k : Nat) : List α := a.take k ++ b.drop k
theorem mix_zero {α : Type} (a b : List α) : mix a b 0 = b := by simp [mix]
theorem mix_all {α : Type} (a b : List α) {k : Nat} (h : b.length ≤ k) (ha : a.length ≤ k) : mix a b k = a := by
  rw [mix, List.take_of_length_le ha, List.drop_eq_nil_of_le h, List.append_nil]
theorem mix_length {α : Type} (a b : List α) (k : Nat) (h : a.length = b.length) : (mix a b k).length = b.length := by
  rw [mix, List.length_append, List.length_take, List.length_drop]
  omega
theorem mix_get {α : Type} (a b : List α) (h : a.length = b.length) (k i : Nat) (hi : k ≤ i) : (mix a b k)[i]? = b[i]? := by
  rw [mix]
  by_cases hk : k ≤ a.length
  · rw [List.getElem?_append_right (by rw [List.length_take]; omega), List.length_take, List.getElem?_drop]
    congr 1
    omega
  · rw [List.getElem?_eq_none (by rw [List.length_append, List.length_take, List.length_drop]; omega), List.getElem?_eq_none (by omega)]
theorem mix_low {α : Type} (a b : List α) (h : a.length = b.length) (k i : Nat) (hi : i < k) : (mix a b k)[i]? = a[i]? := by
  rw [mix]
  by_cases hia : i < a.length
  · rw [List.getElem?_append_left (by rw [List.length_take]; omega), List.getElem?_take_of_lt hi]
  · rw [List.getElem?_eq_none (by rw [List.length_append, List.length_take, List.length_drop]; omega), List.getElem?_eq_none (by omega)]
theorem mix_set {α : Type} (a b : List α) (h : a.length = b.length) (k : Nat) (u : α) (hu : a[k]? = some u) : (mix a b k).set k u = mix a b (k + 1) := by
  have hk : k < a.length := (List.getElem?_eq_some_iff.1 hu).1
  apply List.ext_getElem?
  intro i
  rw [List.getElem?_set]
  by_cases e : k = i
  · subst e
    rw [if_pos rfl, if_pos (by rw [mix_length _ _ _ h]; omega), mix_low a b h _ _ (Nat.lt_succ_self _), hu]
  · rw [if_neg e]
    by_cases hi : i < k
    · rw [mix_low a b h _ _ hi, mix_low a b h _ _ (by omega)]
    · rw [mix_get a b h _ _ (by omega), mix_get a b h _ _ (by omega)]

/-! Bytes and the operations of the walk. -/
theorem u8_ofInt (a : UInt8) : (BitVec.ofInt 8 (a.toNat : Int)) = a.toBitVec := by
  apply BitVec.eq_of_toNat_eq
  rw [BitVec.ofInt_natCast, BitVec.toNat_ofNat]
  exact Nat.mod_eq_of_lt a.toNat_lt
theorem u8_wrap (a : UInt8) : IntKind.u8.wrap (a.toNat : Int) = (a.toNat : Int) := by
  have := a.toNat_lt
  rw [show IntKind.u8.wrap (a.toNat : Int) = (a.toNat : Int) % 256 from rfl]
  omega
theorem xor_u8 (a b : UInt8) : bits .xor .u8 (a.toNat : Int) (b.toNat : Int) = ((a ^^^ b).toNat : Int) := by
  show IntKind.u8.wrap ((BitVec.ofInt 8 (a.toNat : Int) ^^^ BitVec.ofInt 8 (b.toNat : Int)).toNat : Int) = _
  rw [u8_ofInt, u8_ofInt]
  exact u8_wrap (a ^^^ b)
end Go.Proofs.YtlkchajkhplapaaGreatDoor
namespace Go.Proofs.YtlkchajkhplapaaGreatDoor
open Go.RowKit

/-- What the program says of a type of arrays of n bytes. -/
structure ArrT (P : Program) (t e : TypeId) (n : Nat) : Prop where
  ht : P.underlying t = some (.array n e)
  hi : (P.info? t).map (·.size) = some n

theorem bcells_size (l : List UInt8) : (bcells l).toArray.size = l.length := by simp [bcells]
theorem bcells_all (l : List UInt8) : (bcells l).toArray.all (·.oneCell') = true := by
  rw [Array.all_eq_true_iff_forall_mem]
  intro u hu
  exact bcells_one l u (by simpa using hu)

section
variable {P : Program} {w : World} {ops : Array Oper} {rest : List Oper} {o : Oper} {a : Act} {Q : Exit → Act → World → Prop} {ty e t : TypeId} {n g : Nat} {l l' : List UInt8}

theorem wpList_loadB (hT : ArrT P ty e n) (hgd : o.guard = none) (x : Operand) (ho : o.op = .load ty x) (h : BB w g t l) (hl : l.length = n) (hx : a.eval x = .pointer (some ⟨g, 0, none⟩))
    (hk : wpList P ops Q rest (a.put o.dst (.agg (bcells l).toArray)) w) : wpList P ops Q (o :: rest) a w :=
  wpList_load_row hgd ty x ho g hx t _ (0, 0) _ h hT.ht rfl (by rw [hT.hi, bcells_size, hl]) hk

theorem BB.setRow (h : BB w g t l) (l' : List UInt8) : BB (w.setRow g (bcells l').toArray) g t l' := setRow_heap w g _ _ t _ h
theorem grown_setRow (w : World) (g : Nat) (cs : Array Value) : w.grownBy (w.setRow g cs) (some g) :=
  ⟨rfl, rfl, rfl, by rw [size_setRow]; exact Nat.le_refl _, fun i _ hne => setRow_other w g i cs (fun e => hne (by rw [e]))⟩

theorem wpList_storeB (hT : ArrT P ty e n) (hgd : o.guard = none) (x y : Operand) (ho : o.op = .store ty x y) (h : BB w g t l) (hl : l.length = n) (hl' : l'.length = n) (hx : a.eval x = .pointer (some ⟨g, 0, none⟩)) (hy : a.eval y = .agg (bcells l').toArray)
    (hk : ∀ w', BB w' g t l' → w.grownBy w' (some g) → wpList P ops Q rest (a.put o.dst undef) w') : wpList P ops Q (o :: rest) a w :=
  wpList_store_row hgd ty x y ho g _ hx hy t _ h (by rw [hT.hi, bcells_size, hl']) (by rw [bcells_size, bcells_size, hl, hl']) (bcells_all l') (hk _ (h.setRow l') (grown_setRow _ _ _))
/-- The result that lies in a block. -/
theorem results_B {fn : Func} {p : Tmp} (hT : ArrT P ty e n) (hr : fn.results = #[.cell p ty]) (tmps : Array Value) (h : BB w g t l) (hl : l.length = n) (hp : tmps.getD p undef = .pointer (some ⟨g, 0, none⟩)) :
    (results fn tmps).run P w = .ok (.agg (bcells l).toArray) w :=
  results_cell_row hr tmps w g t _ (0, 0) _ hp h hT.ht rfl (by rw [hT.hi, bcells_size, hl])
end
theorem BB.grown {w w' : World} {g g' : Nat} {t : TypeId} {l : List UInt8} (h : BB w g t l) (hg : w.grownBy w' (some g')) (hne : g ≠ g') : BB w' g t l := (hg.block g h.lt (fun e => hne (by injection e))).trans h
theorem below_of_grown {B g : Nat} {w w' : World} (hg : w.grownBy w' (some g)) (hB : B ≤ g) (hs : B ≤ w.heap.size) : Below B w w' :=
  ⟨hg.os, hg.tape, hg.output, hg.size, fun i hi => hg.block i (Nat.lt_of_lt_of_le hi hs) (fun e => by injection e; omega)⟩
end Go.Proofs.YtlkchajkhplapaaGreatDoor
