/- Words for byte slices in memory: what a slice reads as, that it stays, and what append and conversions make of it. Plain lemmas, no program. -/
import Derived.WalkKit
import Derived.Below
import Derived.Lib.Hide
import Derived.Laws.OwnMore
import Derived.Laws.AppendOwnNone
import Derived.Laws.IdiomStrings
import Derived.Laws.BytesArg
import Derived.Maps.AppendAt
import Derived.Deep.Draws
import Derived.OpenShut
namespace Go.Proofs.YtlkchajkhplapaaGreatDoor
open Go.RowKit

theorem u8_of {x : Int} {n : Nat} (h : x = ((n % 256 : Nat) : Int)) : x = ((UInt8.ofNat n).toNat : Int) := by rw [h]; simp

/-- The cells of bytes. -/
def bcells (l : List UInt8) : List Value := l.map fun u => Value.int .u8 (u.toNat : Int)

theorem bcells_length (l : List UInt8) : (bcells l).length = l.length := by simp [bcells]
theorem bcells_at (l : List UInt8) (k : Nat) : (bcells l)[k]? = (l[k]?).map fun u => Value.int .u8 (u.toNat : Int) := by simp [bcells]
theorem bcells_append (a b : List UInt8) : bcells (a ++ b) = bcells a ++ bcells b := by simp [bcells]
theorem bcells_one (l : List UInt8) : ∀ u ∈ bcells l, u.oneCell' = true := by
  intro u hu
  obtain ⟨_, _, rfl⟩ := List.mem_map.1 hu
  rfl

theorem add_block (a : Addr) (n : Nat) : (a.add n).block = a.block := by unfold Addr.add; split <;> rfl
theorem add_add_ (a : Addr) (i j : Nat) : (a.add i).add j = a.add (i + j) := by
  unfold Addr.add
  by_cases hi : i = 0 <;> by_cases hj : j = 0 <;> simp [hi, hj, Nat.add_assoc]

theorem cell_alloc {w : World} {a : Addr} {v : Value} (h : w.cell? a = some v) (o : Obj) : (w.alloc o).cell? a = some v :=
  (World.cell?_alloc_lt w o a (World.block_lt_of_cell? w a h)).trans h

/-- The slice at A, of this capacity, reads as the bytes l; its block lies below B. -/
def RB (w : World) (B : Nat) (A : Option Addr) (l : List UInt8) (cap : Nat) : Prop :=
  l.length ≤ cap ∧ cap ≤ maxLen ∧ ((A = none ∧ cap = 0) ∨ ∃ a, A = some a ∧ ∀ k u, l[k]? = some u → a.block < B ∧ w.cell? (a.add k) = some (.int .u8 (u.toNat : Int)))

section
variable {w w' : World} {B B' cap : Nat} {A : Option Addr} {l : List UInt8}
theorem RB.nil_ (w : World) (B : Nat) : RB w B none [] 0 := ⟨Nat.le_refl _, Nat.zero_le _, .inl ⟨rfl, rfl⟩⟩
theorem RB.keep (h : RB w B A l cap) (hk : ∀ a : Addr, a.block < B → w'.cell? a = w.cell? a) : RB w' B A l cap :=
  ⟨h.1, h.2.1, h.2.2.imp id fun ⟨a, hA, hc⟩ => ⟨a, hA, fun k u hu => ⟨(hc k u hu).1, (hk _ (by rw [add_block]; exact (hc k u hu).1)).trans (hc k u hu).2⟩⟩⟩
theorem RB.more (h : RB w B A l cap) (hB : B ≤ B') : RB w B' A l cap :=
  ⟨h.1, h.2.1, h.2.2.imp id fun ⟨a, hA, hc⟩ => ⟨a, hA, fun k u hu => ⟨Nat.lt_of_lt_of_le (hc k u hu).1 hB, (hc k u hu).2⟩⟩⟩
theorem RB.below (h : RB w B A l cap) (hb : Below B w w') : RB w' B A l cap := h.keep fun _ hlt => hb.cell hlt
theorem RB.alloc (h : RB w B A l cap) (hB : B ≤ w.heap.size) (o : Obj) : RB (w.alloc o) B A l cap := h.below ((Below.refl B w).alloc hB o)
theorem RB.drew (h : RB w B A l cap) : RB w.drew B A l cap := h
theorem RB.drewN (h : RB w B A l cap) (n : Nat) : RB (w.drewN n) B A l cap := h
theorem RB.grown {row : Option Nat} (h : RB w B A l cap) (hg : w.grownBy w' row) (hB : B ≤ w.heap.size) (hr : ∀ g, row = some g → B ≤ g) : RB w' B A l cap :=
  h.keep fun p hp => World.cell?_of_block (hg.block p.block (by omega) (fun e => by have := hr _ e.symm; omega))
/-- A slice that is not empty: its address written out, all its cells. -/
theorem RB.open_ (h : RB w B A l cap) (hp : 0 < l.length) :
    ∃ b off, A = some ⟨b, off, none⟩ ∧ b < B ∧ ∀ k (hk : k < l.length), w.cell? ⟨b, off + k, none⟩ = some (.int .u8 (l[k].toNat : Int)) := by
  rcases h.2.2 with ⟨_, h0⟩ | ⟨⟨b, off, s⟩, hA, hc⟩
  · have := h.1; omega
  · have hb := (hc 0 _ (List.getElem?_eq_getElem hp)).1
    have h0 := (hc 0 _ (List.getElem?_eq_getElem hp)).2
    have hs : s = none := by simpa [Addr.add] using World.cell?_spot h0
    subst hs
    exact ⟨b, off, hA, hb, fun k hk => by have := (hc k _ (List.getElem?_eq_getElem hk)).2; rwa [Addr.add_lit] at this⟩
theorem RB.of_own {base : Nat} {e : TypeId} {n : Nat} (h : w.ownsRow base e 1 (.slice A n cap) n (bcells l)) : RB w w.heap.size A l cap := by
  have hn : l.length = n := by have := h.1; simpa [bcells_length] using this
  subst hn
  rcases h.2 with ⟨hv, hl⟩ | ⟨g, cap', cur, hv, _, hg, hc, hm, _⟩
  · injection hv with h1 _ h3
    subst h1 h3
    exact ⟨by omega, by simp [maxLen], .inl ⟨rfl, rfl⟩⟩
  · injection hv with h1 _ h3
    subst h1 h3
    refine ⟨hc, hm, .inr ⟨_, rfl, fun k u hu => ⟨(Array.getElem?_eq_some_iff.1 hg).1, ?_⟩⟩⟩
    exact h.cells (g := g) rfl k (.int .u8 (u.toNat : Int)) (by rw [bcells_at, hu]; rfl)
/-- A cut 's[k:]'. -/
theorem RB.cut (h : RB w B A l cap) {k : Nat} (hk : k ≤ l.length) : RB w B (if cap = k then A else A.map (·.add k)) (l.drop k) (cap - k) := by
  obtain ⟨h1, h2, h3⟩ := h
  refine ⟨by rw [List.length_drop]; omega, by omega, ?_⟩
  rcases h3 with ⟨rfl, rfl⟩ | ⟨a, rfl, hc⟩
  · exact .inl ⟨by simp, by omega⟩
  · by_cases he : cap = k
    · have hn : l.drop k = [] := List.drop_eq_nil_of_le (by omega)
      rw [if_pos he, hn]
      exact .inr ⟨a, rfl, fun k u hu => by simp at hu⟩
    · rw [if_neg he]
      exact .inr ⟨_, rfl, fun j u hu => by rw [add_add_, add_block]; exact hc _ u (by rw [← hu, List.getElem?_drop])⟩
/-- A cut 's[:k]'. -/
theorem RB.head (h : RB w B A l cap) (k : Nat) : RB w B A (l.take k) cap := by
  obtain ⟨h1, h2, h3⟩ := h
  refine ⟨Nat.le_trans (List.length_take_le' _ _) h1, h2, h3.imp id fun ⟨a, hA, hc⟩ => ⟨a, hA, fun j u hu => hc j u ?_⟩⟩
  rw [List.getElem?_take] at hu
  split at hu
  · exact hu
  · cases hu
end

/-- What the frame of a law opens of a slice of bytes that came in. -/
theorem RB.of_ints {w : World} {A : Option Addr} {len cap : Nat} {zs : List Int}
    (h : (A = none ∧ len = 0 ∧ cap = 0 ∧ zs = []) ∨ ∃ x, A = some x ∧ len ≤ cap ∧ cap ≤ maxLen ∧ zs.length = cap ∧ (∀ i, i < zs.length → w.cell? (x.add i) = some (.int .u8 (zs.getD i 0))) ∧ ∀ n ∈ zs, (Lit.int .u8 n).wf = true) :
    ∃ l : List UInt8, l.length = len ∧ RB w w.heap.size A l cap := by
  rcases h with ⟨rfl, rfl, rfl, rfl⟩ | ⟨x, rfl, hl, hm, hz, hc, hw⟩
  · exact ⟨[], rfl, RB.nil_ _ _⟩
  · have hlen : ((zs.take len).map fun n => UInt8.ofNat n.toNat).length = len := by simp; omega
    refine ⟨(zs.take len).map fun n => UInt8.ofNat n.toNat, hlen, by omega, hm, .inr ⟨x, rfl, fun k u hu => ?_⟩⟩
    have hk : k < len := by rw [← hlen]; exact (List.getElem?_eq_some_iff.1 hu).1
    have hkz : k < zs.length := by omega
    have hcell := hc k hkz
    rw [List.getElem?_map, List.getElem?_take_of_lt hk, List.getElem?_eq_getElem hkz] at hu
    have hb : zs.getD k 0 = zs[k] := by simp [List.getD, List.getElem?_eq_getElem hkz]
    rw [hb] at hcell
    have hx := bounds_u8 (hw zs[k] (List.getElem_mem hkz))
    have hlt := World.block_lt_of_cell? w _ hcell
    rw [add_block] at hlt
    simp only [Option.map_some, Option.some.injEq] at hu
    subst hu
    refine ⟨hlt, hcell.trans ?_⟩
    congr 2
    exact u8_of (by omega)

/-- A row of bytes of the call's own. -/
def OwnB (w : World) (base : Nat) (e : TypeId) (v : Value) (l : List UInt8) : Prop := w.ownsRow base e 1 v l.length (bcells l)

/-- What the program says of its type of byte slices. -/
structure ByteT (P : Program) (t e : TypeId) : Prop where
  ht : P.underlying t = some (.slice e)
  he : P.underlying e = some (.int .u8)
  hi : (P.info? e).map (fun i => (i.zero, i.size, i.bytes)) = some (some (.int .u8 0), 1, 1)

section
variable {w w' : World} {B base : Nat} {e : TypeId} {v : Value} {l : List UInt8}
theorem OwnB.nil_ (w : World) (base : Nat) (e : TypeId) : OwnB w base e (.slice none 0 0) [] := World.ownsRow_nil w base e 1
theorem OwnB.shape (h : OwnB w base e v l) : ∃ A cap, v = .slice A l.length cap ∧ RB w w.heap.size A l cap ∧ (∀ a, A = some a → base ≤ a.block) := by
  rcases h.2 with ⟨rfl, hl⟩ | ⟨g, cap, cur, rfl, hb, _⟩
  · refine ⟨none, 0, by rw [hl], ?_, fun a ha => by cases ha⟩
    have : l = [] := List.eq_nil_of_length_eq_zero hl
    subst this
    exact RB.nil_ _ _
  · exact ⟨some ⟨g, 0, none⟩, cap, rfl, RB.of_own h, fun a ha => by injection ha with ha; subst ha; exact hb⟩
theorem OwnB.alloc (h : OwnB w base e v l) (o : Obj) : OwnB (w.alloc o) base e v l := World.ownsRow.alloc h o
theorem OwnB.drew (h : OwnB w base e v l) : OwnB w.drew base e v l := h
theorem OwnB.below (h : OwnB w base e v l) (hb : Below w.heap.size w w') : OwnB w' base e v l :=
  World.ownsRow.kept (row := none) h ⟨hb.os, hb.tape, hb.output, hb.size, fun k hk _ => hb.block k hk⟩ (by cases hv : v.ownBlock <;> simp)
theorem OwnB.base_ {base' : Nat} (h : OwnB w base e v l) (hb : base' ≤ base) : OwnB w base' e v l :=
  ⟨h.1, h.2.imp id fun ⟨g, cap, cur, hv, hg, r⟩ => ⟨g, cap, cur, hv, Nat.le_trans hb hg, r⟩⟩
theorem OwnB.lt (h : OwnB w base e v l) : ∀ k, v.ownBlock = some k → base ≤ k ∧ k < w.heap.size := World.ownsRow.lt h
end

section
variable {P : Program} {w : World} {ops : Array Oper} {rest : List Oper} {o : Oper} {a : Act} {Q : Exit → Act → World → Prop}

/-- 'append(s, x...)' over bytes, s a row of the call's own, x whatever. -/
theorem run_appB {t e : TypeId} (hT : ByteT P t e) (ty : TypeId) {base : Nat} {v : Value} {l : List UInt8} (hown : OwnB w base e v l)
    {B : Nat} {A : Option Addr} {news : List UInt8} {c : Nat} (hr : RB w B A news c) (hlen : l.length + news.length ≤ 140737488355328) (hbase : base ≤ w.heap.size) :
    ∃ v' w', (Builtin.append_ #[t, t] ty #[v, .slice A news.length c]).run P w = .ok v' w' ∧ OwnB w' base e v' (l ++ news) ∧ w.grownBy w' v.ownBlock ∧
      (v' = .slice none 0 0 ↔ v = .slice none 0 0 ∧ news = []) ∧ (v'.ownBlock = v.ownBlock ∨ v'.ownBlock = some w.heap.size) := by
  obtain ⟨i0, hi, hz0, hz1, hz2⟩ := info_parts hT.hi
  obtain ⟨h1, h2, h3⟩ := hr
  rcases h3 with ⟨rfl, rfl⟩ | ⟨ad, rfl, hc⟩
  · have hn : news = [] := List.eq_nil_of_length_eq_zero (by omega)
    subst hn
    refine ⟨v, w, run_append_owned_none (P := P) (w := w) base t ty e i0 1 hT.ht hi v l.length (bcells l) hown, by simpa using hown, World.grownBy.refl w _, by simp, .inl rfl⟩
  · obtain ⟨v', w', hrun, ho, hg, hn, hp⟩ := run_append_own_at (P := P) w base t ty e i0 (.int .u8 0) 1 1 hT.ht hi hz0 hz1 hz2 rfl (by decide) v l.length (bcells l) hown
      ad news.length c (bcells news) (by rw [bcells_length, Nat.mul_one]) (fun j u hu => by
        rw [bcells_at] at hu
        obtain ⟨x, hx, rfl⟩ := Option.map_eq_some_iff.1 hu
        exact (hc j x hx).2) (bcells_one news) (by unfold maxLen; omega) (by omega) hbase
    refine ⟨v', w', hrun, ?_, hg, ?_, hp⟩
    · unfold OwnB
      rw [bcells_append, List.length_append]
      exact ho
    · rw [hn, List.length_eq_zero_iff]

theorem wpList_appB {t e : TypeId} (hT : ByteT P t e) (hgd : o.guard = none) (s x : Operand)
    (ho : o.op = .call { callee := .builtin .append, args := #[s, x], argTypes := #[t, t] })
    {base : Nat} {v : Value} {l : List UInt8} (hown : OwnB w base e v l) {B : Nat} {A : Option Addr} {news : List UInt8} {c : Nat} (hr : RB w B A news c)
    (hs : a.eval s = v) (hx : a.eval x = .slice A news.length c) (hlen : l.length + news.length ≤ 140737488355328) (hbase : base ≤ w.heap.size)
    (h : ∀ v' w', OwnB w' base e v' (l ++ news) → w.grownBy w' v.ownBlock → (v' = .slice none 0 0 ↔ v = .slice none 0 0 ∧ news = []) → (v'.ownBlock = v.ownBlock ∨ v'.ownBlock = some w.heap.size) →
      wpList P ops Q rest (a.put o.dst v') w') : wpList P ops Q (o :: rest) a w := by
  refine wpList_plain hgd fun K hK => ?_
  obtain ⟨v', w', hrun, h2, h3, h4, h5⟩ := run_appB hT o.type hown hr hlen hbase
  unfold Oper.wp execOp
  simp only [ho, resolve, invoke, builtin, Sem.run_bind, Sem.run_pure, Result.andThen_ok, List.map_toArray, List.map_cons, List.map_nil, hs, hx, hrun]
  exact hK _ _ (h v' w' h2 h3 h4 h5)

/-- 'string(b)'. -/
theorem run_strB {t e dst : TypeId} (hT : ByteT P t e) (hd : P.underlying dst = some .string) {B : Nat} {A : Option Addr} {l : List UInt8} {c : Nat} (hr : RB w B A l c) :
    (convert t dst (.slice A l.length c)).run P w = .ok (.string ⟨l.toArray⟩) w := by
  obtain ⟨h1, h2, h3⟩ := hr
  rcases h3 with ⟨rfl, rfl⟩ | ⟨ad, rfl, hc⟩
  · have hn : l = [] := List.eq_nil_of_length_eq_zero (by omega)
    subst hn
    exact run_convert_bytes_nil w t e hT.ht hT.he 0 0 dst hd
  · exact run_convert_bytes_back w t dst e ad c l hT.ht hT.he hd fun j hj => (hc j _ (List.getElem?_eq_getElem hj)).2
end

theorem RB.new (w : World) (t : TypeId) (l : List UInt8) (hm : l.length ≤ maxLen) (B : Nat) (hB : w.heap.size < B) :
    RB (w.alloc (.cells (bcells l).toArray t)) B (some ⟨w.heap.size, 0, none⟩) l l.length := by
  refine ⟨Nat.le_refl _, hm, .inr ⟨_, rfl, fun k u hu => ⟨hB, ?_⟩⟩⟩
  rw [Addr.add_lit, cell_of_row (w.alloc (.cells (bcells l).toArray t)) w.heap.size (0 + k) (bcells l).toArray t (0, 0) (heap_alloc_new w _)]
  simp [bcells, hu]
theorem RB.newm (w : World) (t : TypeId) (fr : Nat × Nat) (l : List UInt8) (hm : l.length ≤ maxLen) (B : Nat) (hB : w.heap.size < B) :
    RB (w.alloc (.cells (bcells l).toArray t fr)) B (some ⟨w.heap.size, 0, none⟩) l l.length := by
  refine ⟨Nat.le_refl _, hm, .inr ⟨_, rfl, fun k u hu => ⟨hB, ?_⟩⟩⟩
  rw [Addr.add_lit, World.cell?_alloc_mark]
  simp [bcells, hu]

theorem RB.new1 (w : World) (t : TypeId) (u : UInt8) (x : Int) (hx : x = (u.toNat : Int)) (B : Nat) (hB : w.heap.size < B) :
    RB (w.alloc (.cells #[.int .u8 x] t)) B (some ⟨w.heap.size, 0, none⟩) [u] 1 := by
  subst hx
  exact RB.new w t [u] (by simp [maxLen]) B hB

theorem RB.new3 (w : World) (t : TypeId) (u1 u2 u3 : UInt8) (x1 x2 x3 : Int) (h1 : x1 = (u1.toNat : Int)) (h2 : x2 = (u2.toNat : Int)) (h3 : x3 = (u3.toNat : Int)) (B : Nat) (hB : w.heap.size < B) :
    RB (w.alloc (.cells #[.int .u8 x1, .int .u8 x2, .int .u8 x3] t)) B (some ⟨w.heap.size, 0, none⟩) [u1, u2, u3] 3 := by
  subst h1 h2 h3
  exact RB.new w t [u1, u2, u3] (by simp [maxLen]) B hB
theorem OwnB.new3 (w : World) (base : Nat) (t : TypeId) (u1 u2 u3 : UInt8) (x1 x2 x3 : Int) (h1 : x1 = (u1.toNat : Int)) (h2 : x2 = (u2.toNat : Int)) (h3 : x3 = (u3.toNat : Int)) (hb : base ≤ w.heap.size) :
    (w.alloc (.cells #[.int .u8 x1, .int .u8 x2, .int .u8 x3] t)).ownsRow base t 1 (.slice (some ⟨w.heap.size, 0, none⟩) 3 3) 3 (bcells [u1, u2, u3]) := by
  subst h1 h2 h3
  exact ⟨by simp [bcells_length], .inr ⟨w.heap.size, 3, _, rfl, hb, heap_alloc_new w _, Nat.le_refl _, by simp [maxLen], by simp, by simp [bcells]⟩⟩
theorem OwnB.new (w : World) (base : Nat) (t : TypeId) (l : List UInt8) (hb : base ≤ w.heap.size) (hm : l.length ≤ maxLen) :
    OwnB (w.alloc (.cells (bcells l).toArray t)) base t (.slice (some ⟨w.heap.size, 0, none⟩) l.length l.length) l :=
  ⟨by simp [bcells_length], .inr ⟨w.heap.size, l.length, (bcells l).toArray, rfl, hb, heap_alloc_new w _, Nat.le_refl _, hm, by simp [bcells_length], by simp [← bcells_length l]⟩⟩
theorem OwnB.new0 (w : World) (base : Nat) (t : TypeId) (hb : base ≤ w.heap.size) : OwnB (w.alloc (.cells #[] t)) base t (.slice (some ⟨w.heap.size, 0, none⟩) 0 0) [] :=
  OwnB.new w base t [] hb (by simp [maxLen])
theorem OwnB.new1 (w : World) (base : Nat) (t : TypeId) (u : UInt8) (x : Int) (hx : x = (u.toNat : Int)) (hb : base ≤ w.heap.size) :
    OwnB (w.alloc (.cells #[.int .u8 x] t)) base t (.slice (some ⟨w.heap.size, 0, none⟩) 1 1) [u] := by
  subst hx
  exact OwnB.new w base t [u] hb (by simp [maxLen])

theorem or_byte64 (x y : Int) (h0 : 0 ≤ x) (hm : x % 256 = 0) (h1 : x < 18446744073709551616) (hy0 : 0 ≤ y) (hy : y < 256) : bits .or .u64 x y = x + y :=
  bits_join .u64 64 (by decide) (by intro n a b; rw [IntKind.wrap_u64]; omega) 8 x y h0 (by omega) (by omega) hy0 (by omega) (by omega)
theorem or_byte (x y : Int) (h0 : 0 ≤ x) (hm : x % 256 = 0) (h1 : x < 9223372036854775808) (hy0 : 0 ≤ y) (hy : y < 256) : bits .or .i64 x y = x + y :=
  bits_join .i64 63 (by decide) (by intro n a b; rw [IntKind.wrap_i64]; omega) 8 x y h0 (by omega) (by omega) hy0 (by omega) (by omega)
theorem ret_val {a b : Value} (h : a = b) : Ending.returned a = .returned b := by rw [h]
end Go.Proofs.YtlkchajkhplapaaGreatDoor
