/- Slices of strings in memory, rows of them of the call's own. Plain lemmas. -/
import Derived.Test.YtbkaabimafipoaaMod
namespace Go.Proofs.Ytbkaabimafipoaa
open Go.ChangeShapes Go.WideShapes Go.RowKit

/-- The slice at A, of this capacity, reads as the strings ls; its block lies below B. -/
def RS (w : World) (B : Nat) (A : Option Addr) (ls : List ByteArray) (cap : Nat) : Prop :=
  ls.length ≤ cap ∧ cap ≤ maxLen ∧ ((A = none ∧ cap = 0) ∨ ∃ a, A = some a ∧ ∀ k s, ls[k]? = some s → a.block < B ∧ w.cell? (a.add k) = some (.string s))
/-- The bytes of strings. -/
def dl (ls : List ByteArray) : List (List UInt8) := ls.map (·.data.toList)
theorem dl_length (ls : List ByteArray) : (dl ls).length = ls.length := by simp [dl]

section
variable {w w' : World} {B B' cap : Nat} {A : Option Addr} {ls : List ByteArray}
theorem RS.nil_ (w : World) (B : Nat) : RS w B none [] 0 := ⟨Nat.le_refl _, Nat.zero_le _, .inl ⟨rfl, rfl⟩⟩
theorem RS.keep (h : RS w B A ls cap) (hk : ∀ a : Addr, a.block < B → w'.cell? a = w.cell? a) : RS w' B A ls cap :=
  ⟨h.1, h.2.1, h.2.2.imp id fun ⟨a, hA, hc⟩ => ⟨a, hA, fun k u hu => ⟨(hc k u hu).1, (hk _ (by rw [add_block]; exact (hc k u hu).1)).trans (hc k u hu).2⟩⟩⟩
theorem RS.more (h : RS w B A ls cap) (hB : B ≤ B') : RS w B' A ls cap :=
  ⟨h.1, h.2.1, h.2.2.imp id fun ⟨a, hA, hc⟩ => ⟨a, hA, fun k u hu => ⟨Nat.lt_of_lt_of_le (hc k u hu).1 hB, (hc k u hu).2⟩⟩⟩
theorem RS.below (h : RS w B A ls cap) (hb : Below B w w') : RS w' B A ls cap := h.keep fun _ hlt => hb.cell hlt
theorem RS.over (h : RS w w.heap.size A ls cap) (hb : Below w.heap.size w w') : RS w' w'.heap.size A ls cap := (h.below hb).more hb.size
theorem RS.alloc (h : RS w B A ls cap) (hB : B ≤ w.heap.size) (o : Obj) : RS (w.alloc o) B A ls cap := h.below ((Below.refl B w).alloc hB o)
theorem RS.drewN (h : RS w B A ls cap) (n : Nat) : RS (w.drewN n) B A ls cap := h
/-- A slice that is not empty: its address written out, all its cells. -/
theorem RS.open_ (h : RS w B A ls cap) (hp : 0 < ls.length) :
    ∃ b off, A = some ⟨b, off, none⟩ ∧ b < B ∧ ∀ k (hk : k < ls.length), w.cell? ⟨b, off + k, none⟩ = some (.string ls[k]) := by
  rcases h.2.2 with ⟨_, h0⟩ | ⟨⟨b, off, s⟩, hA, hc⟩
  · have := h.1; omega
  · have hb := (hc 0 _ (List.getElem?_eq_getElem hp)).1
    have h0 := (hc 0 _ (List.getElem?_eq_getElem hp)).2
    have hs : s = none := by simpa [Addr.add] using World.cell?_spot h0
    subst hs
    exact ⟨b, off, hA, hb, fun k hk => by have := (hc k _ (List.getElem?_eq_getElem hk)).2; rwa [Addr.add_lit] at this⟩
end

/-- A row of strings of the call's own. -/
def OwnS (w : World) (base : Nat) (e : TypeId) (v : Value) (ls : List ByteArray) : Prop := w.ownsRow base e 1 v ls.length (ls.map Value.string)
/-- What the program says of its type of slices of strings. -/
structure StrT (P : Program) (t e : TypeId) : Prop where
  ht : P.underlying t = some (.slice e)
  hi : (P.info? e).map (fun i => (i.zero, i.size, i.bytes)) = some (some (.string ⟨#[]⟩), 1, 16)
theorem strT : StrT Try.prog 31 9 := ⟨Try.underlying31, by kernel_rfl⟩
theorem strs_one (ls : List ByteArray) : ∀ u ∈ ls.map Value.string, u.oneCell' = true := by
  intro u hu
  obtain ⟨_, _, rfl⟩ := List.mem_map.1 hu
  rfl
theorem OwnS.nil_ (w : World) (base : Nat) (e : TypeId) : OwnS w base e (.slice none 0 0) [] := World.ownsRow_nil w base e 1
theorem OwnS.shape {w : World} {base : Nat} {e : TypeId} {v : Value} {ls : List ByteArray} (h : OwnS w base e v ls) : ∃ A cap, v = .slice A ls.length cap ∧ RS w w.heap.size A ls cap ∧ (∀ g, v.ownBlock = some g → base ≤ g ∧ g < w.heap.size) := by
  rcases h.2 with ⟨rfl, hl⟩ | ⟨g, cap, cur, rfl, hb, hg, hc, hm, _⟩
  · have : ls = [] := List.eq_nil_of_length_eq_zero hl
    subst this
    exact ⟨none, 0, rfl, RS.nil_ _ _, fun g hg => by simp [Value.ownBlock] at hg⟩
  · have hlt := (Array.getElem?_eq_some_iff.1 hg).1
    refine ⟨_, cap, rfl, ⟨hc, hm, .inr ⟨_, rfl, fun k s hs => ⟨hlt, ?_⟩⟩⟩, fun g' hg' => by simp [Value.ownBlock] at hg'; omega⟩
    exact h.cells (g := g) rfl k (.string s) (by rw [List.getElem?_map, hs]; rfl)
theorem OwnS.row {w w' : World} {base : Nat} {e : TypeId} {v : Value} {ls : List ByteArray} {g : Nat} (h : OwnS w base e v ls) (hg : w.grownBy w' (some g)) (hne : ∀ x, v.ownBlock = some x → x ≠ g) : OwnS w' base e v ls :=
  World.ownsRow.kept h hg (.inr (fun e => hne g e rfl))
theorem OwnS.kept_ {w w' : World} {base : Nat} {e : TypeId} {v : Value} {ls : List ByteArray} (h : OwnS w base e v ls) (hg : w.grownBy w' none) : OwnS w' base e v ls :=
  World.ownsRow.kept h hg (by cases hv : v.ownBlock <;> simp)
theorem OwnS.shape_lt {w : World} {base : Nat} {e : TypeId} {v : Value} {ls : List ByteArray} (h : OwnS w base e v ls) : ∀ g, v.ownBlock = some g → base ≤ g ∧ g < w.heap.size := by
  obtain ⟨_, _, _, _, h⟩ := h.shape
  exact h
theorem slSize_ : (Try.prog.info? 31).map (·.size) = some 1 := by kernel_rfl
theorem grownR {a b c : World} {r : Option Nat} (h : a.grownBy b none) (k : b.grownBy c r) (hr : ∀ g, r = some g → a.heap.size ≤ g) : a.grownBy c none := by
  rcases r with _ | g
  · exact grown_trans' h k
  · exact none_new h k (hr g rfl)
section
variable {P : Program} {w : World} {ops : Array Oper} {rest : List Oper} {o : Oper} {a : Act} {Q : Exit → Act → World → Prop}
theorem run_appS {t e : TypeId} (hT : StrT P t e) (ty : TypeId) {base : Nat} {v : Value} {ls : List ByteArray} (hown : OwnS w base e v ls) {ad : Addr} {p : ByteArray} {c : Nat} (hp : w.cell? ad = some (.string p)) (hlen : ls.length ≤ 1000000) (hbase : base ≤ w.heap.size) :
    ∃ v' w', (Builtin.append_ #[t, t] ty #[v, .slice (some ad) 1 c]).run P w = .ok v' w' ∧ OwnS w' base e v' (ls ++ [p]) ∧ w.grownBy w' v.ownBlock ∧ (v'.ownBlock = v.ownBlock ∨ v'.ownBlock = some w.heap.size) := by
  obtain ⟨i0, hi, hz0, hz1, hz2⟩ := info_parts hT.hi
  obtain ⟨v', w', hrun, ho, hg, _, hat⟩ := run_append_own_at (P := P) (w := w) base t ty e i0 (.string ⟨#[]⟩) 1 16 hT.ht hi hz0 hz1 hz2 rfl (by decide) v ls.length (ls.map Value.string) hown
    ad 1 c [.string p] rfl (fun j u hu => by
      match j with
      | 0 => simp at hu; subst hu; simpa [Addr.add] using hp
      | j + 1 => simp at hu) (fun u hu => by rw [List.mem_singleton.1 hu]; rfl) (by unfold maxLen; omega) (by omega) hbase
  refine ⟨v', w', hrun, ?_, hg, hat⟩
  unfold OwnS
  rw [List.length_append, List.map_append]
  exact ho
theorem wpList_appS {t e : TypeId} (hT : StrT P t e) (hgd : o.guard = none) (s x : Operand)
    (ho : o.op = .call { callee := .builtin .append, args := #[s, x], argTypes := #[t, t] })
    {base : Nat} {v : Value} {ls : List ByteArray} (hown : OwnS w base e v ls) {ad : Addr} {p : ByteArray} {c : Nat} (hp : w.cell? ad = some (.string p))
    (hs : a.eval s = v) (hx : a.eval x = .slice (some ad) 1 c) (hlen : ls.length ≤ 1000000) (hbase : base ≤ w.heap.size)
    (h : ∀ v' w', OwnS w' base e v' (ls ++ [p]) → w.grownBy w' v.ownBlock → (v'.ownBlock = v.ownBlock ∨ v'.ownBlock = some w.heap.size) → wpList P ops Q rest (a.put o.dst v') w') : wpList P ops Q (o :: rest) a w := by
  refine wpList_plain hgd fun K hK => ?_
  obtain ⟨v', w', hrun, h2, h3, h5⟩ := run_appS (c := c) hT o.type hown hp hlen hbase
  unfold Oper.wp execOp
  simp only [ho, resolve, invoke, builtin, Sem.run_bind, Sem.run_pure, Result.andThen_ok, List.map_toArray, List.map_cons, List.map_nil, hs, hx, hrun]
  exact hK _ _ (h v' w' h2 h3 h5)
end

theorem cell_heap {w : World} {g : Nat} {cs : Array Value} {t : TypeId} (h : w.heap[g]? = some (.cells cs t (0, 0))) (k : Nat) : w.cell? ⟨g, k, none⟩ = cs[k]? := cell_of_row w g k cs t (0, 0) h
section
variable {P : Program} {w : World} {o : Oper} {d : Option Tmp} {a : Act} {K : Act → World → Prop} {Q : Exit → Act → World → Prop} {ty t e : TypeId} {n g off : Nat} {cs p : List Value}
theorem wp_storeC (hi : (P.info? ty).map (·.size) = some n) (hd : o.dst = d) (x y : Operand) (ho : o.op = .store ty x y) (v : Value) (hv : v.cells = p.toArray) (h1 : ∀ u ∈ p, u.oneCell' = true) (h : CB w g t cs) (hp : p.length = n) (hl : off + n ≤ cs.length)
    (hx : a.eval x = .pointer (some ⟨g, off, none⟩)) (hy : a.eval y = v)
    (hk : ∀ w', CB w' g t (over cs off p) → w.grownBy w' (some g) → K (a.put d undef) w') : o.wp P a w K Q := by
  subst hd
  unfold Oper.wp execOp
  simp only [ho, hx, hy, Instr.storeAt, Instr.sureAddr, Sem.run_bind, Sem.run_pure, Result.andThen_ok, run_storeC hi v hv h1 h hp hl]
  exact hk _ (h.over off p) (grown_setRow _ _ _)
theorem wp_appS (hT : StrT P t e) (hd : o.dst = d) (s x : Operand)
    (ho : o.op = .call { callee := .builtin .append, args := #[s, x], argTypes := #[t, t] })
    {base : Nat} {v : Value} {ls : List ByteArray} (hown : OwnS w base e v ls) {ad : Addr} {p : ByteArray} {c : Nat} (hp : w.cell? ad = some (.string p))
    (hs : a.eval s = v) (hx : a.eval x = .slice (some ad) 1 c) (hlen : ls.length ≤ 1000000) (hbase : base ≤ w.heap.size)
    (h : ∀ v' w', OwnS w' base e v' (ls ++ [p]) → w.grownBy w' v.ownBlock → (v'.ownBlock = v.ownBlock ∨ v'.ownBlock = some w.heap.size) → K (a.put d v') w') : o.wp P a w K Q := by
  subst hd
  obtain ⟨v', w', hrun, h2, h3, h5⟩ := run_appS (c := c) hT o.type hown hp hlen hbase
  unfold Oper.wp execOp
  simp only [ho, resolve, invoke, builtin, Sem.run_bind, Sem.run_pure, Result.andThen_ok, List.map_toArray, List.map_cons, List.map_nil, hs, hx, hrun]
  exact h v' w' h2 h3 h5
end

end Go.Proofs.Ytbkaabimafipoaa
