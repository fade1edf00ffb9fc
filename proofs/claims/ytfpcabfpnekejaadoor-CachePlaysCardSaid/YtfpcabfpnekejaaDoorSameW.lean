/- The walk of Split of tlv. -/
import Derived.Test.YtfpcabfpnekejaaDoorOwnF
namespace Go.Proofs.YtfpcabfpnekejaaDoor
open Go.RowKit

theorem fieldT : FieldT Tryd.prog 95 97 := ⟨Tryd.underlying95, by kernel_rfl⟩

def splitF : Nat → List UInt8 → List Fd → List Fd × Int
  | 0, _, acc => (acc, 0)
  | f + 1, l, acc => if l = [] then (acc, 0) else if (firstOf l).2.2 = 0 then splitF f (firstOf l).2.1 (acc ++ [(firstOf l).1]) else ([], (firstOf l).2.2)
/-- What Split answers. -/
def splitOf (l : List UInt8) : List Fd × Int := splitF l.length l []

theorem firstOf_shorter (l : List UInt8) (h : (firstOf l).2.2 = 0) : (firstOf l).2.1.length < l.length := by
  unfold firstOf at h ⊢
  split
  · next h1 => rw [if_pos h1] at h; simp at h
  · next h1 =>
    rw [if_neg h1] at h
    split
    · next h2 => rw [if_pos h2] at h; simp at h
    · next h2 =>
      rw [if_neg h2] at h
      split
      · next h3 => rw [if_pos h3] at h; simp at h
      · simp; omega
theorem firstOf_byte (l : List UInt8) : 0 ≤ (firstOf l).1.1 ∧ (firstOf l).1.1 < 256 := by
  unfold firstOf
  split
  · simp
  · split
    · simp
    · split
      · simp
      · have := (l.headD 0).toNat_lt
        exact ⟨Int.natCast_nonneg _, Int.ofNat_lt.2 this⟩
theorem firstOf_err (l : List UInt8) : (firstOf l).2.2 = 0 ∨ (firstOf l).2.2 = 20 ∨ (firstOf l).2.2 = 21 := by
  unfold firstOf
  split
  · simp
  · split
    · simp
    · split <;> simp

end Go.Proofs.YtfpcabfpnekejaaDoor
namespace Go.Proofs.YtfpcabfpnekejaaDoor
open Go.RowKit

theorem From.cell {w wx : World} (h : From w wx) {p : Addr} {v : Value} (hc : w.cell? p = some v) : wx.cell? p = some v :=
  (Below.cell h (World.block_lt_of_cell? w p hc)).trans hc

def RowF (w : World) (base B : Nat) (tF : TypeId) (v : Value) (fs : List Fd) : Prop :=
  ∃ vs : List Value, vs.length = fs.length ∧ w.ownsRow base tF 2 v fs.length (fcells fs vs) ∧ ∀ (k : Nat) (f : Fd) (u : Value), fs[k]? = some f → vs[k]? = some u → ∃ V c, u = .slice V f.2.length c ∧ RB w B V f.2 c

theorem fcells_append (fs gs : List Fd) (vs us : List Value) (h : vs.length = fs.length) : fcells (fs ++ gs) (vs ++ us) = fcells fs vs ++ fcells gs us := by
  unfold fcells
  rw [List.zip_append h.symm, List.flatMap_append]

theorem fcells_get : ∀ (fs : List Fd) (vs : List Value) (j : Nat) (x : Value), (fcells fs vs)[j]? = some x → ∃ k f u, fs[k]? = some f ∧ vs[k]? = some u ∧ ((j = 2 * k ∧ x = .int .i64 f.1) ∨ (j = 2 * k + 1 ∧ x = u))
  | f :: fs, u :: vs, 0, x, h => ⟨0, f, u, rfl, rfl, .inl ⟨rfl, by simp [fcells] at h; exact h.symm⟩⟩
  | f :: fs, u :: vs, 1, x, h => ⟨0, f, u, rfl, rfl, .inr ⟨rfl, by simp [fcells] at h; exact h.symm⟩⟩
  | f :: fs, u :: vs, j + 2, x, h => by
    have h' : (fcells fs vs)[j]? = some x := h
    obtain ⟨k, f', u', hf, hu, hx⟩ := fcells_get fs vs j x h'
    refine ⟨k + 1, f', u', hf, hu, ?_⟩
    rcases hx with ⟨rfl, hx⟩ | ⟨rfl, hx⟩
    · exact .inl ⟨by omega, hx⟩
    · exact .inr ⟨by omega, hx⟩
  | [], _, j, x, h => by simp [fcells] at h
  | _ :: _, [], j, x, h => by simp [fcells] at h

theorem RF.vals {w : World} {B : Nat} {a : Addr} {fs : List Fd} {cap : Nat} (h : RF w B (some a) fs cap) :
    ∃ vs : List Value, vs.length = fs.length ∧ (∀ (j : Nat) (x : Value), (fcells fs vs)[j]? = some x → w.cell? (a.add j) = some x) ∧ ∀ (k : Nat) (f : Fd) (u : Value), fs[k]? = some f → vs[k]? = some u → ∃ V c, u = .slice V f.2.length c ∧ RB w B V f.2 c := by
  obtain ⟨_, _, h3⟩ := h
  rcases h3 with ⟨h, _⟩ | ⟨a', ha, hc⟩
  · cases h
  · injection ha with ha
    subst ha
    refine ⟨(List.range fs.length).map fun k => (w.cell? (a.add (2 * k + 1))).getD undef, by simp, fun j x hx => ?_, fun k f u hf hu => ?_⟩
    · obtain ⟨k, f, u, hf, hu, hx⟩ := fcells_get _ _ j x hx
      obtain ⟨_, h1, V, c, h2, _⟩ := hc k f hf
      rcases hx with ⟨rfl, rfl⟩ | ⟨rfl, rfl⟩
      · exact h1
      · have hk := (List.getElem?_eq_some_iff.1 hf).1
        simp [hk, h2] at hu
        rw [h2, hu]
    · obtain ⟨_, h1, V, c, h2, h3⟩ := hc k f hf
      have hk := (List.getElem?_eq_some_iff.1 hf).1
      simp [hk, h2] at hu
      exact ⟨V, c, hu.symm, h3⟩

theorem RowF.new0 (w : World) (base B : Nat) (tF : TypeId) (hb : base ≤ w.heap.size) : RowF (w.alloc (.cells #[] tF)) base B tF (.slice (some ⟨w.heap.size, 0, none⟩) 0 0) [] :=
  ⟨[], rfl, ⟨rfl, .inr ⟨w.heap.size, 0, #[], rfl, hb, heap_alloc_new w _, Nat.le_refl _, by simp [maxLen], rfl, rfl⟩⟩, fun k f u hf _ => by simp at hf⟩
section
variable {w w' : World} {base B : Nat} {tF : TypeId} {v : Value} {fs : List Fd}
theorem RowF.lt (h : RowF w base B tF v fs) : ∀ k, v.ownBlock = some k → base ≤ k ∧ k < w.heap.size := by
  obtain ⟨vs, h1, h2, h3⟩ := h
  exact World.ownsRow.lt h2
theorem RowF.shape (h : RowF w base B tF v fs) (hB : B ≤ w.heap.size) : ∃ A cap, v = .slice A fs.length cap ∧ RF w w.heap.size A fs cap := by
  obtain ⟨vs, h1, h2, h3⟩ := h
  rcases h2.2 with ⟨rfl, hl⟩ | ⟨g, cap, cur, rfl, hb, hg, hc, hm, _⟩
  · refine ⟨none, 0, by rw [hl], ?_⟩
    have : fs = [] := List.eq_nil_of_length_eq_zero hl
    subst this
    exact RF.nil_ _ _
  · refine ⟨_, cap, rfl, hc, hm, .inr ⟨_, rfl, fun k f hf => ?_⟩⟩
    have hk : k < vs.length := by rw [h1]; exact (List.getElem?_eq_some_iff.1 hf).1
    have hu := List.getElem?_eq_getElem hk
    obtain ⟨c0, c1⟩ := fcells_at fs vs k f _ hf hu
    obtain ⟨V, c, hV, hr⟩ := h3 k f _ hf hu
    refine ⟨(Array.getElem?_eq_some_iff.1 hg).1, h2.cells (g := g) rfl _ _ c0, V, c, ?_, hr.more hB⟩
    rw [← hV]
    exact h2.cells (g := g) rfl _ _ c1
end

section
variable {P : Program} {w : World} {ops : Array Oper} {rest : List Oper} {o : Oper} {a : Act} {Q : Exit → Act → World → Prop}
theorem run_appFs {t tF : TypeId} (hT : FieldT P t tF) (ty : TypeId) {base B : Nat} {v : Value} {fs gs : List Fd} {A : Option Addr} {c : Nat} (hown : RowF w base B tF v fs) (hr : RF w B A gs c)
    (hlen : fs.length + gs.length ≤ 1000000000000) (hbase : base ≤ w.heap.size) (hB : B ≤ base) :
    ∃ v' w', (Builtin.append_ #[t, t] ty #[v, .slice A gs.length c]).run P w = .ok v' w' ∧ RowF w' base B tF v' (fs ++ gs) ∧ w.grownBy w' v.ownBlock := by
  obtain ⟨vs, hl, hrow, hvs⟩ := hown
  obtain ⟨i0, hi, hz0, hz1, hz2⟩ := info_parts hT.hi
  cases A with
  | none =>
    have h0 : c = 0 ∧ gs = [] := by
      obtain ⟨h1, h2, h3⟩ := hr
      rcases h3 with ⟨_, h3⟩ | ⟨a, ha, _⟩
      · exact ⟨h3, List.eq_nil_of_length_eq_zero (by omega)⟩
      · cases ha
    obtain ⟨rfl, rfl⟩ := h0
    refine ⟨v, w, run_append_owned_none (P := P) (w := w) base t ty tF i0 2 hT.ht hi v fs.length (fcells fs vs) hrow, ⟨vs, by simpa using hl, by simpa using hrow, by simpa using hvs⟩, World.grownBy.refl w _⟩
  | some ad =>
    obtain ⟨us, hul, huc, huv⟩ := hr.vals
    have hone : ∀ x ∈ fcells gs us, x.oneCell' = true := by
      intro x hx
      obtain ⟨j, hj⟩ := List.mem_iff_getElem?.1 hx
      obtain ⟨k, f, u, hf, hu, h⟩ := fcells_get _ _ _ _ hj
      rcases h with ⟨_, rfl⟩ | ⟨_, rfl⟩
      · rfl
      · obtain ⟨V, cc, rfl, _⟩ := huv k f _ hf hu
        rfl
    obtain ⟨v', w', hrun, ho, hg, hn, hp⟩ := run_append_own_at (P := P) w base t ty tF i0 (.agg #[.int .i64 0, .slice none 0 0]) 2 32 hT.ht hi hz0 hz1 hz2 rfl (by decide) v fs.length (fcells fs vs) hrow
      ad gs.length c (fcells gs us) (fcells_length gs us hul) huc hone (by unfold maxLen; omega) (by omega) hbase
    have hkeep : ∀ {V : Option Addr} {l : List UInt8} {cc : Nat}, RB w B V l cc → RB w' B V l cc := fun h =>
      h.grown hg (Nat.le_trans hB hbase) (fun g hgk => Nat.le_trans hB (World.ownsRow.lt hrow g hgk).1)
    refine ⟨v', w', hrun, ⟨vs ++ us, by simp [hl, hul], ?_, fun k f u hf hu => ?_⟩, hg⟩
    · rw [fcells_append fs gs vs us hl, List.length_append]
      exact ho
    · by_cases hk : k < fs.length
      · rw [List.getElem?_append_left hk] at hf
        rw [List.getElem?_append_left (by omega)] at hu
        obtain ⟨V, cc, hV, hr'⟩ := hvs k f u hf hu
        exact ⟨V, cc, hV, hkeep hr'⟩
      · rw [List.getElem?_append_right (by omega)] at hf
        rw [List.getElem?_append_right (by omega), hl] at hu
        obtain ⟨V, cc, hV, hr'⟩ := huv _ f u hf hu
        exact ⟨V, cc, hV, hkeep hr'⟩

theorem wpList_appFs {t tF : TypeId} (hT : FieldT P t tF) (hw : Region.wanted o (yielded ops a.tmps) = true) (s x : Operand)
    (ho : o.op = .call { callee := .builtin .append, args := #[s, x], argTypes := #[t, t] })
    {base B : Nat} {v : Value} {fs gs : List Fd} {A : Option Addr} {c : Nat} (hown : RowF w base B tF v fs) (hr : RF w B A gs c)
    (hs : a.eval s = v) (hx : a.eval x = .slice A gs.length c) (hlen : fs.length + gs.length ≤ 1000000000000) (hbase : base ≤ w.heap.size) (hB : B ≤ base)
    (h : ∀ v' w', RowF w' base B tF v' (fs ++ gs) → w.grownBy w' v.ownBlock → wpList P ops Q rest (a.put o.dst v') w') : wpList P ops Q (o :: rest) a w := by
  refine wpList_step fun K hK => ?_
  rw [if_pos hw]
  obtain ⟨v', w', hrun, h2, h3⟩ := run_appFs hT o.type hown hr hlen hbase hB
  unfold Oper.wp execOp
  simp only [ho, resolve, invoke, builtin, Sem.run_bind, Sem.run_pure, Result.andThen_ok, List.map_toArray, List.map_cons, List.map_nil, hs, hx]
  rw [hrun]
  exact hK _ _ (h v' w' h2 h3)
end
end Go.Proofs.YtfpcabfpnekejaaDoor
