/- Slices of ints and slices of byte slices in memory: what they read as. Plain lemmas. -/
import Derived.Test.YtfpcabfpnekejaaDoorRSpW
import Derived.Test.YtfpcabfpnekejaaDoorSameW
namespace Go.Proofs.YtfpcabfpnekejaaDoor
open Go.RowKit

def icells (l : List Int) : List Value := l.map (Value.int .i64)
theorem icells_length (l : List Int) : (icells l).length = l.length := by simp [icells]
theorem icells_at (l : List Int) (k : Nat) : (icells l)[k]? = (l[k]?).map (Value.int .i64) := by simp [icells]
theorem icells_one (l : List Int) : ∀ u ∈ icells l, u.oneCell' = true := by
  intro u hu
  obtain ⟨_, _, rfl⟩ := List.mem_map.1 hu
  rfl

/-- The slice at A reads as the ints l; its block lies below B. -/
def RI (w : World) (B : Nat) (A : Option Addr) (l : List Int) (cap : Nat) : Prop :=
  l.length ≤ cap ∧ cap ≤ maxLen ∧ ((A = none ∧ cap = 0) ∨ ∃ a, A = some a ∧ ∀ k u, l[k]? = some u → a.block < B ∧ w.cell? (a.add k) = some (.int .i64 u))

section
variable {w w' : World} {B B' cap : Nat} {A : Option Addr} {l : List Int}
theorem RI.nil_ (w : World) (B : Nat) : RI w B none [] 0 := ⟨Nat.le_refl _, Nat.zero_le _, .inl ⟨rfl, rfl⟩⟩
theorem RI.keep (h : RI w B A l cap) (hk : ∀ a : Addr, a.block < B → w'.cell? a = w.cell? a) : RI w' B A l cap :=
  ⟨h.1, h.2.1, h.2.2.imp id fun ⟨a, hA, hc⟩ => ⟨a, hA, fun k u hu => ⟨(hc k u hu).1, (hk _ (by rw [add_block]; exact (hc k u hu).1)).trans (hc k u hu).2⟩⟩⟩
theorem RI.more (h : RI w B A l cap) (hB : B ≤ B') : RI w B' A l cap :=
  ⟨h.1, h.2.1, h.2.2.imp id fun ⟨a, hA, hc⟩ => ⟨a, hA, fun k u hu => ⟨Nat.lt_of_lt_of_le (hc k u hu).1 hB, (hc k u hu).2⟩⟩⟩
theorem RI.below (h : RI w B A l cap) (hb : Below B w w') : RI w' B A l cap := h.keep fun _ hlt => hb.cell hlt
theorem RI.open_ (h : RI w B A l cap) (hp : 0 < l.length) :
    ∃ b off, A = some ⟨b, off, none⟩ ∧ b < B ∧ ∀ k (hk : k < l.length), w.cell? ⟨b, off + k, none⟩ = some (.int .i64 l[k]) := by
  rcases h.2.2 with ⟨_, h0⟩ | ⟨⟨b, off, s⟩, hA, hc⟩
  · have := h.1; omega
  · have hb := (hc 0 _ (List.getElem?_eq_getElem hp)).1
    have h0 := (hc 0 _ (List.getElem?_eq_getElem hp)).2
    have hs : s = none := by simpa [Addr.add] using World.cell?_spot h0
    subst hs
    exact ⟨b, off, hA, hb, fun k hk => by have := (hc k _ (List.getElem?_eq_getElem hk)).2; rwa [Addr.add_lit] at this⟩
theorem RI.of_own {base : Nat} {e : TypeId} {n : Nat} (h : w.ownsRow base e 1 (.slice A n cap) n (icells l)) : RI w w.heap.size A l cap := by
  have hn : l.length = n := by have := h.1; simpa [icells_length] using this
  subst hn
  rcases h.2 with ⟨hv, hl⟩ | ⟨g, cap', cur, hv, _, hg, hc, hm, _⟩
  · injection hv with h1 _ h3
    subst h1 h3
    exact ⟨by omega, by simp [maxLen], .inl ⟨rfl, rfl⟩⟩
  · injection hv with h1 _ h3
    subst h1 h3
    refine ⟨hc, hm, .inr ⟨_, rfl, fun k u hu => ⟨(Array.getElem?_eq_some_iff.1 hg).1, ?_⟩⟩⟩
    exact h.cells (g := g) rfl k (.int .i64 u) (by rw [icells_at, hu]; rfl)
theorem RI.of_ints {zs : List Int} {len : Nat}
    (h : (A = none ∧ len = 0 ∧ cap = 0 ∧ zs = []) ∨ ∃ x, A = some x ∧ len ≤ cap ∧ cap ≤ maxLen ∧ zs.length = cap ∧ (∀ i, i < zs.length → w.cell? (x.add i) = some (.int .i64 (zs.getD i 0))) ∧ ∀ n ∈ zs, (Lit.int .i64 n).wf = true) :
    ∃ l : List Int, l.length = len ∧ RI w w.heap.size A l cap := by
  rcases h with ⟨rfl, rfl, rfl, rfl⟩ | ⟨x, rfl, hl, hm, hz, hc, _⟩
  · exact ⟨[], rfl, RI.nil_ _ _⟩
  · have hlen : (zs.take len).length = len := by simp; omega
    refine ⟨zs.take len, hlen, by omega, hm, .inr ⟨x, rfl, fun k u hu => ?_⟩⟩
    have hk : k < len := by rw [← hlen]; exact (List.getElem?_eq_some_iff.1 hu).1
    have hcell := hc k (by omega)
    rw [List.getElem?_take_of_lt hk, List.getElem?_eq_getElem (by omega)] at hu
    have hb : zs.getD k 0 = zs[k]'(by omega) := by simp [List.getD, List.getElem?_eq_getElem (show k < zs.length by omega)]
    rw [hb] at hcell
    have hlt := World.block_lt_of_cell? w _ hcell
    rw [add_block] at hlt
    simp only [Option.some.injEq] at hu
    subst hu
    exact ⟨hlt, hcell⟩
end

/-- The slice at A reads as the texts ls, each in memory below B. -/
def RS (w : World) (B : Nat) (A : Option Addr) (ls : List (List UInt8)) (cap : Nat) : Prop :=
  ls.length ≤ cap ∧ cap ≤ maxLen ∧ ((A = none ∧ cap = 0) ∨ ∃ a, A = some a ∧ ∀ k b, ls[k]? = some b → a.block < B ∧ ∃ V c, w.cell? (a.add k) = some (.slice V b.length c) ∧ RB w B V b c)

section
variable {w w' : World} {B B' cap : Nat} {A : Option Addr} {ls : List (List UInt8)}
theorem RS.nil_ (w : World) (B : Nat) : RS w B none [] 0 := ⟨Nat.le_refl _, Nat.zero_le _, .inl ⟨rfl, rfl⟩⟩
theorem RS.keep (h : RS w B A ls cap) (hk : ∀ a : Addr, a.block < B → w'.cell? a = w.cell? a) : RS w' B A ls cap :=
  ⟨h.1, h.2.1, h.2.2.imp id fun ⟨a, hA, hc⟩ => ⟨a, hA, fun k b hb => by
    obtain ⟨h1, V, c, h2, h3⟩ := hc k b hb
    exact ⟨h1, V, c, (hk _ (by rw [add_block]; exact h1)).trans h2, h3.keep hk⟩⟩⟩
theorem RS.more (h : RS w B A ls cap) (hB : B ≤ B') : RS w B' A ls cap :=
  ⟨h.1, h.2.1, h.2.2.imp id fun ⟨a, hA, hc⟩ => ⟨a, hA, fun k b hb => by
    obtain ⟨h1, V, c, h2, h3⟩ := hc k b hb
    exact ⟨Nat.lt_of_lt_of_le h1 hB, V, c, h2, h3.more hB⟩⟩⟩
theorem RS.below (h : RS w B A ls cap) (hb : Below B w w') : RS w' B A ls cap := h.keep fun _ hlt => hb.cell hlt
theorem RS.open_ (h : RS w B A ls cap) (hp : 0 < ls.length) :
    ∃ b off, A = some ⟨b, off, none⟩ ∧ b < B ∧ ∀ k (hk : k < ls.length), ∃ V c, w.cell? ⟨b, off + k, none⟩ = some (.slice V ls[k].length c) ∧ RB w B V ls[k] c := by
  rcases h.2.2 with ⟨_, h0⟩ | ⟨⟨b, off, s⟩, hA, hc⟩
  · have := h.1; omega
  · obtain ⟨hb, V, c, h0, _⟩ := hc 0 _ (List.getElem?_eq_getElem hp)
    have hs : s = none := by simpa [Addr.add] using World.cell?_spot h0
    subst hs
    exact ⟨b, off, hA, hb, fun k hk => by
      obtain ⟨_, V, c, h2, h3⟩ := hc k _ (List.getElem?_eq_getElem hk)
      rw [Addr.add_lit] at h2
      exact ⟨V, c, h2, h3⟩⟩
end

/-- Slices of byte slices: an answer. -/
def IsS (w : World) (v : Value) (ls : List (List UInt8)) : Prop := ∃ V c, v = .slice V ls.length c ∧ RS w w.heap.size V ls c

theorem IsS.nil_ (w : World) : IsS w (.slice none 0 0) [] := ⟨none, 0, rfl, RS.nil_ _ _⟩

/-- Each of the values reads as its text. -/
def Texts (w : World) (B : Nat) (vs : List Value) (ls : List (List UInt8)) : Prop :=
  vs.length = ls.length ∧ ∀ (k : Nat) (b : List UInt8) (u : Value), ls[k]? = some b → vs[k]? = some u → ∃ V c, u = .slice V b.length c ∧ RB w B V b c

section
variable {w w' : World} {B B' : Nat} {vs : List Value} {ls : List (List UInt8)}
theorem Texts.keep (h : Texts w B vs ls) (hk : ∀ a : Addr, a.block < B → w'.cell? a = w.cell? a) : Texts w' B vs ls :=
  ⟨h.1, fun k b u hb hu => by obtain ⟨V, c, h1, h2⟩ := h.2 k b u hb hu; exact ⟨V, c, h1, h2.keep hk⟩⟩
theorem Texts.more (h : Texts w B vs ls) (hB : B ≤ B') : Texts w B' vs ls :=
  ⟨h.1, fun k b u hb hu => by obtain ⟨V, c, h1, h2⟩ := h.2 k b u hb hu; exact ⟨V, c, h1, h2.more hB⟩⟩
theorem Texts.below (h : Texts w B vs ls) (hb : Below B w w') : Texts w' B vs ls := h.keep fun _ hlt => hb.cell hlt
theorem Texts.snoc (h : Texts w B vs ls) {V : Option Addr} {b : List UInt8} {c : Nat} (hr : RB w B V b c) : Texts w B (vs ++ [Value.slice V b.length c]) (ls ++ [b]) := by
  refine ⟨by simp [h.1], fun k b' u hb hu => ?_⟩
  by_cases hk : k < ls.length
  · rw [List.getElem?_append_left hk] at hb
    rw [List.getElem?_append_left (by rw [h.1]; exact hk)] at hu
    exact h.2 k b' u hb hu
  · have hk' : k = ls.length := by have := (List.getElem?_eq_some_iff.1 hb).1; simp at this; omega
    subst hk'
    simp at hb
    rw [← h.1] at hu
    simp at hu
    subst hb hu
    exact ⟨V, c, rfl, hr⟩
theorem Texts.nil_ (w : World) (B : Nat) : Texts w B [] [] := ⟨rfl, fun k b u hb _ => by simp at hb⟩
theorem Texts.one (h : Texts w B vs ls) : ∀ u ∈ vs, u.oneCell' = true := by
  intro u hu
  obtain ⟨k, hk⟩ := List.mem_iff_getElem?.1 hu
  have hl : k < ls.length := by rw [← h.1]; exact (List.getElem?_eq_some_iff.1 hk).1
  obtain ⟨V, c, rfl, _⟩ := h.2 k _ u (List.getElem?_eq_getElem hl) hk
  rfl
/-- A row whose cells are such values. -/
theorem RS.of_row {g : Nat} {cs : Array Value} {t : TypeId} {fr : Nat × Nat} {cap : Nat} (h : Texts w B vs ls) (hg : w.heap[g]? = some (.cells cs t fr)) (hc : ls.length ≤ cap) (hm : cap ≤ maxLen)
    (hcs : ∀ (k : Nat) (u : Value), vs[k]? = some u → cs[k]? = some u) (hB : B ≤ w.heap.size) : RS w w.heap.size (some ⟨g, 0, none⟩) ls cap := by
  refine ⟨hc, hm, .inr ⟨_, rfl, fun k b hb => ⟨(Array.getElem?_eq_some_iff.1 hg).1, ?_⟩⟩⟩
  have hk : k < vs.length := by rw [h.1]; exact (List.getElem?_eq_some_iff.1 hb).1
  obtain ⟨V, c, hu, hr⟩ := h.2 k b _ hb (List.getElem?_eq_getElem hk)
  refine ⟨V, c, ?_, hr.more hB⟩
  rw [Addr.add_lit, cell_of_row w g (0 + k) cs t fr hg, Nat.zero_add, hcs k _ (List.getElem?_eq_getElem hk), hu]
theorem IsS.of_own {base : Nat} {e : TypeId} {v : Value} (h : Texts w B vs ls) (ho : w.ownsRow base e 1 v vs.length vs) (hB : B ≤ w.heap.size) : IsS w v ls := by
  rcases ho.2 with ⟨rfl, hl⟩ | ⟨g, cap, cur, rfl, _, hg, hc, hm, _⟩
  · have : ls = [] := List.eq_nil_of_length_eq_zero (by rw [← h.1]; exact hl)
    subst this
    exact IsS.nil_ _
  · refine ⟨some ⟨g, 0, none⟩, cap, by rw [h.1], RS.of_row h hg (by rw [← h.1]; exact hc) hm (fun k u hu => ?_) hB⟩
    have := ho.cells (g := g) rfl k u hu
    rwa [Addr.add_lit, cell_of_row w g (0 + k) cur e (0, 0) hg, Nat.zero_add] at this
end

/-- What Values answers. -/
def valuesOf (l : List UInt8) (ts : List Int) : List (List UInt8) × Int :=
  if (splitOf l).2 ≠ 0 then ([], (splitOf l).2) else if (splitOf l).1.map (·.1) = ts then ((splitOf l).1.map (·.2), 0) else ([], 21)
theorem valuesOf_err {l : List UInt8} {ts : List Int} (h : (splitOf l).2 ≠ 0) : valuesOf l ts = ([], (splitOf l).2) := by rw [valuesOf, if_pos h]
theorem valuesOf_len {l : List UInt8} {ts : List Int} (h : (splitOf l).2 = 0) (hl : (splitOf l).1.length ≠ ts.length) : valuesOf l ts = ([], 21) := by
  rw [valuesOf, if_neg (by simp [h]), if_neg (fun he => hl (by rw [← he]; simp))]
theorem valuesOf_tag {l : List UInt8} {ts : List Int} (h : (splitOf l).2 = 0) {k : Nat} {f : Fd} {t : Int} (hf : (splitOf l).1[k]? = some f) (ht : ts[k]? = some t) (hne : f.1 ≠ t) : valuesOf l ts = ([], 21) := by
  rw [valuesOf, if_neg (by simp [h]), if_neg (fun he => hne ?_)]
  rw [← he, List.getElem?_map, hf] at ht
  simpa using ht
theorem valuesOf_all {l : List UInt8} {ts : List Int} (h : (splitOf l).2 = 0) (hl : (splitOf l).1.length = ts.length) (ha : ∀ k f t, k < ts.length → (splitOf l).1[k]? = some f → ts[k]? = some t → f.1 = t) : valuesOf l ts = ((splitOf l).1.map (·.2), 0) := by
  rw [valuesOf, if_neg (by simp [h]), if_pos]
  apply List.ext_getElem?
  intro k
  by_cases hk : k < ts.length
  · rw [List.getElem?_map, List.getElem?_eq_getElem (show k < (splitOf l).1.length by omega), List.getElem?_eq_getElem hk]
    simp only [Option.map_some]
    rw [ha k _ _ hk (List.getElem?_eq_getElem (by omega)) (List.getElem?_eq_getElem hk)]
  · rw [List.getElem?_eq_none (by simp; omega), List.getElem?_eq_none (by omega)]

theorem IsS.new0 (w : World) (t : TypeId) : IsS (w.alloc (.cells #[] t)) (.slice (some ⟨w.heap.size, 0, none⟩) 0 0) [] :=
  ⟨some _, 0, rfl, Nat.le_refl _, Nat.zero_le _, .inr ⟨_, rfl, fun k b hb => by simp at hb⟩⟩

section
variable {P : Program} {w : World} {ops : Array Oper} {rest : List Oper} {o : Oper} {a : Act} {Q : Exit → Act → World → Prop}
/-- 'append(out, x)' of one slice value. -/
theorem run_appS {t e : TypeId} (ht : P.underlying t = some (.slice e)) (hinf : (P.info? e).map (fun i => (i.zero, i.size, i.bytes)) = some (some (.slice none 0 0), 1, 24)) (ty : TypeId) {base : Nat} {v u : Value} {us : List Value}
    (hown : w.ownsRow base e 1 v us.length us) {ad : Addr} {c : Nat} (hone : u.oneCell' = true) (hc : w.cell? ad = some u) (hlen : us.length + 1 ≤ 1000000000) (hbase : base ≤ w.heap.size) :
    ∃ v' w', (Builtin.append_ #[t, t] ty #[v, .slice (some ad) 1 c]).run P w = .ok v' w' ∧ w'.ownsRow base e 1 v' (us ++ [u]).length (us ++ [u]) ∧ w.grownBy w' v.ownBlock := by
  obtain ⟨i0, hi, hz0, hz1, hz2⟩ := info_parts hinf
  obtain ⟨v', w', hrun, ho, hg, _, _⟩ := run_append_own_at (P := P) w base t ty e i0 (.slice none 0 0) 1 24 ht hi hz0 hz1 hz2 rfl (by decide) v us.length us hown
    ad 1 c [u] rfl (fun j x hx => by
      match j, hx with
      | 0, hx => simp at hx; subst hx; simpa [Addr.add] using hc
      | j + 1, hx => simp at hx) (fun x hx => by simp at hx; subst hx; exact hone) (by unfold maxLen; omega) (by omega) hbase
  refine ⟨v', w', hrun, ?_, hg⟩
  rw [List.length_append]
  exact ho
theorem wpList_appS {t e : TypeId} (ht : P.underlying t = some (.slice e)) (hinf : (P.info? e).map (fun i => (i.zero, i.size, i.bytes)) = some (some (.slice none 0 0), 1, 24)) (hgd : o.guard = none) (s x : Operand)
    (ho : o.op = .call { callee := .builtin .append, args := #[s, x], argTypes := #[t, t] })
    {base : Nat} {v u : Value} {us : List Value} (hown : w.ownsRow base e 1 v us.length us) {ad : Addr} {c : Nat} (hone : u.oneCell' = true) (hc : w.cell? ad = some u)
    (hs : a.eval s = v) (hx : a.eval x = .slice (some ad) 1 c) (hlen : us.length + 1 ≤ 1000000000) (hbase : base ≤ w.heap.size)
    (h : ∀ v' w', w'.ownsRow base e 1 v' (us ++ [u]).length (us ++ [u]) → w.grownBy w' v.ownBlock → wpList P ops Q rest (a.put o.dst v') w') : wpList P ops Q (o :: rest) a w := by
  refine wpList_plain hgd fun K hK => ?_
  obtain ⟨v', w', hrun, h2, h3⟩ := run_appS ht hinf o.type hown (c := c) hone hc hlen hbase
  unfold Oper.wp execOp
  simp only [ho, resolve, invoke, builtin, Sem.run_bind, Sem.run_pure, Result.andThen_ok, List.map_toArray, List.map_cons, List.map_nil, hs, hx, hrun]
  exact hK _ _ (h v' w' h2 h3)

/-- 'append(s, x...)' over ints, s empty and new. -/
theorem run_appI {t e : TypeId} (ht : P.underlying t = some (.slice e)) (hinf : (P.info? e).map (fun i => (i.zero, i.size, i.bytes)) = some (some (.int .i64 0), 1, 8)) (ty : TypeId) {base : Nat} {v : Value} {l news : List Int}
    (hown : w.ownsRow base e 1 v l.length (icells l)) {B : Nat} {A : Option Addr} {c : Nat} (hr : RI w B A news c) (hlen : l.length + news.length ≤ 1000000000) (hbase : base ≤ w.heap.size) :
    ∃ v' w', (Builtin.append_ #[t, t] ty #[v, .slice A news.length c]).run P w = .ok v' w' ∧ w'.ownsRow base e 1 v' (l ++ news).length (icells (l ++ news)) ∧ w.grownBy w' v.ownBlock := by
  obtain ⟨i0, hi, hz0, hz1, hz2⟩ := info_parts hinf
  obtain ⟨h1, h2, h3⟩ := hr
  rcases h3 with ⟨rfl, rfl⟩ | ⟨ad, rfl, hc⟩
  · have hn : news = [] := List.eq_nil_of_length_eq_zero (by omega)
    subst hn
    exact ⟨v, w, run_append_owned_none (P := P) (w := w) base t ty e i0 1 ht hi v l.length (icells l) hown, by simpa using hown, World.grownBy.refl w _⟩
  · obtain ⟨v', w', hrun, ho, hg, _, _⟩ := run_append_own_at (P := P) w base t ty e i0 (.int .i64 0) 1 8 ht hi hz0 hz1 hz2 rfl (by decide) v l.length (icells l) hown
      ad news.length c (icells news) (by rw [icells_length, Nat.mul_one]) (fun j u hu => by
        rw [icells_at] at hu
        obtain ⟨x, hx, rfl⟩ := Option.map_eq_some_iff.1 hu
        exact (hc j x hx).2) (icells_one news) (by unfold maxLen; omega) (by omega) hbase
    refine ⟨v', w', hrun, ?_, hg⟩
    rw [List.length_append, show icells (l ++ news) = icells l ++ icells news by simp [icells]]
    exact ho
end

/-- The values of fields, as they lie. -/
theorem RF.texts {w : World} {B : Nat} {A : Option Addr} {fs : List Fd} {cap : Nat} (h : RF w B A fs cap) :
    ∃ vs : List Value, Texts w B vs (fs.map (·.2)) ∧ ∀ b off, A = some ⟨b, off, none⟩ → ∀ (k : Nat) (u : Value), vs[k]? = some u → w.cell? ⟨b, off + k * 2 + 1, none⟩ = some u := by
  by_cases h0 : fs.length = 0
  · have : fs = [] := List.eq_nil_of_length_eq_zero h0
    subst this
    exact ⟨[], Texts.nil_ _ _, fun b off _ k u hu => by simp at hu⟩
  · obtain ⟨b, off, rfl, hb, hc⟩ := h.open_ (by omega)
    refine ⟨(List.range fs.length).map fun k => (w.cell? ⟨b, off + k * 2 + 1, none⟩).getD undef, ⟨by simp, fun k x u hx hu => ?_⟩, fun b' off' he k u hu => ?_⟩
    · rw [List.getElem?_map] at hx
      obtain ⟨f, hf, rfl⟩ := Option.map_eq_some_iff.1 hx
      have hk := (List.getElem?_eq_some_iff.1 hf).1
      obtain ⟨_, V, c, h2, h3⟩ := hc k f hf
      simp [hk, h2] at hu
      exact ⟨V, c, hu.symm, h3⟩
    · injection he with he
      injection he with h1 h2
      subst h1 h2
      have hk : k < fs.length := by have := (List.getElem?_eq_some_iff.1 hu).1; simpa using this
      obtain ⟨_, V, c, h2, h3⟩ := hc k _ (List.getElem?_eq_getElem hk)
      simp [hk, h2] at hu
      rw [h2, hu]
end Go.Proofs.YtfpcabfpnekejaaDoor
