/- The walk of the examples of the document. -/
import Derived.Test.YtfpcabfpnekejaaDoorFld
import Derived.Lib.SlBytesConst
import Derived.Test.YtfpcabfpnekejaaDoorReg
import Derived.WalkSpells
namespace Go.Proofs.YtfpcabfpnekejaaDoor
open Go.RowKit

theorem RF.new1 (w w0 : World) (t : TypeId) (x : Int) (V : Option Addr) (v : List UInt8) (c n : Nat) (hn : n = v.length) (B : Nat) (hB : w.heap.size < B) (hr : RB w w.heap.size V v c)
    (hw : w0 = w.alloc (.cells #[.int .i64 x, .slice V n c] t)) : RF w0 B (some ⟨w.heap.size, 0, none⟩) [(x, v)] 1 := by
  subst hn hw
  refine ⟨Nat.le_refl _, by simp [maxLen], .inr ⟨_, rfl, fun k f hf => ⟨hB, ?_⟩⟩⟩
  match k, hf with
  | 0, hf =>
    simp at hf
    subst hf
    refine ⟨by simp [Addr.add], V, c, by simp [Addr.add], (hr.alloc (Nat.le_refl _) _).more (Nat.le_of_lt hB)⟩
  | k + 1, hf => simp at hf

theorem num_at (x : Int) (n : Nat) (hx : x = (n : Int)) (w : World) (hn : n < 18446744073709551616) :
    Calls Tryd.prog 43 #[.int .u64 x] w fun e w' => ∃ v, e = .returned v ∧ OwnB w' w.heap.size 5 v (numB n) ∧ Below w.heap.size w w' := by
  subst hx
  exact num_any n w hn

theorem join_at (A : Option Addr) (fs : List Fd) (n cap : Nat) (w : World) (hn : fs.length = n) (h : RF w w.heap.size A fs cap) (ht : ∀ f ∈ fs, -9223372036854775808 ≤ f.1 ∧ f.1 ≤ 9223372036854775807) (hs : tot fs ≤ 1000000000) :
    Calls Tryd.prog 52 #[.slice A n cap] w fun e w' => ∃ v, e = .returned (.tuple #[v, .int .i64 (joinOf fs []).2]) ∧ OwnB w' w.heap.size 5 v (joinOf fs []).1 ∧ Below w.heap.size w w' := by
  subst hn
  exact join_any A fs cap w h ht hs

end Go.Proofs.YtfpcabfpnekejaaDoor
namespace Go.Proofs.YtfpcabfpnekejaaDoor
open Go.RowKit

set_option maxHeartbeats 400000 in
theorem clone_any (A : Option Addr) (l : List UInt8) (cap n : Nat) (w : World) (hn : l.length = n) (h : RB w w.heap.size A l cap) (hl : n ≤ 140737488355328) :
    Calls Tryd.prog 28 #[.slice A n cap] w fun e w' => ∃ A' c, e = .returned (.slice A' n c) ∧ OwnB w' w.heap.size 5 (.slice A' n c) l ∧ Below w.heap.size w w' := by
  subst hn
  have hl2 : l.length ≤ 9223372036854775807 := by omega
  have hne := fun wx => Lib.run_eql_slice_nil (P := Tryd.prog) wx 31 5 A l.length cap 0 0 Tryd.underlying31
  cases A with
  | none =>
    have h0 : cap = 0 ∧ l = [] := by
      obtain ⟨h1, h2, h3⟩ := h
      rcases h3 with ⟨_, h3⟩ | ⟨a, ha, _⟩
      · exact ⟨h3, List.eq_nil_of_length_eq_zero (by omega)⟩
      · cases ha
    obtain ⟨rfl, rfl⟩ := h0
    clear h hne
    have hne := fun wx => Lib.run_eql_slice_nil (P := Tryd.prog) wx 31 5 none 0 0 0 0 Tryd.underlying31
    go_enter Tryd.func28, Tryd.ntmps28
    go_wp2
    go_ret
    exact ⟨_, _, rfl, OwnB.nil_ _ _ _, Below.refl _ _⟩
  | some a =>
    have H := Lib.hid h
    clear h
    go_enter Tryd.func28, Tryd.ntmps28
    go_wp2_with (at_builtin; refine wpList_appB byteT rfl (.tmp 5) (.tmp 6) rfl (OwnB.new0 _ w.heap.size _ (Nat.le_refl _)) (H.out.alloc (Nat.le_refl _) _) rfl rfl (by simp; omega) (by simp) ?_; intro v' w' hown' hg' _ hat')
    rw [List.nil_append] at hown'
    obtain ⟨A', c, rfl, hr, -⟩ := hown'.shape
    go_ret
    exact ⟨A', c, rfl, hown', ((Below.refl _ _).alloc (Nat.le_refl _) _).grown hg' (by simp) (fun k hk => by simp [Value.ownBlock] at hk; omega)⟩

/-- What the first field of bytes is, and what is behind it; or the number of the error. -/
def firstOf (l : List UInt8) : (Int × List UInt8) × List UInt8 × Int :=
  if l.headD 0 = 0 then ((0, []), [], 21)
  else if l.length < 3 then ((0, []), [], 20)
  else if l.length - 3 < (l.getD 1 0).toNat * 256 + (l.getD 2 0).toNat then ((0, []), [], 20)
  else (((l.headD 0).toNat, (l.drop 3).take ((l.getD 1 0).toNat * 256 + (l.getD 2 0).toNat)), l.drop (3 + ((l.getD 1 0).toNat * 256 + (l.getD 2 0).toNat)), 0)

theorem Below.drewW {B : Nat} {a w : World} (h : Below B a w) {n : Nat} : Below B a (w.drewN n) := ⟨h.os, h.tape, h.output, h.size, h.block⟩

end Go.Proofs.YtfpcabfpnekejaaDoor
namespace Go.Proofs.YtfpcabfpnekejaaDoor
open Go.RowKit

def fcells (fs : List Fd) (vs : List Value) : List Value := (fs.zip vs).flatMap fun p => [.int .i64 p.1.1, p.2]

theorem fcells_length (fs : List Fd) (vs : List Value) (h : vs.length = fs.length) : (fcells fs vs).length = fs.length * 2 := by
  have : (fs.zip vs).length = fs.length := by rw [List.length_zip]; omega
  unfold fcells
  rw [List.length_flatMap]
  simp [this, List.map_const', List.sum_replicate_nat]
theorem fcells_snoc (fs : List Fd) (vs : List Value) (h : vs.length = fs.length) (f : Fd) (u : Value) : fcells (fs ++ [f]) (vs ++ [u]) = fcells fs vs ++ [.int .i64 f.1, u] := by
  unfold fcells
  rw [List.zip_append h.symm]
  simp
theorem fcells_at : ∀ (fs : List Fd) (vs : List Value) (k : Nat) (f : Fd) (u : Value), fs[k]? = some f → vs[k]? = some u → (fcells fs vs)[2 * k]? = some (.int .i64 f.1) ∧ (fcells fs vs)[2 * k + 1]? = some u
  | f' :: fs, u' :: vs, 0, f, u, hf, hu => by simp at hf hu; subst hf hu; exact ⟨rfl, rfl⟩
  | f' :: fs, u' :: vs, k + 1, f, u, hf, hu => by
    have := fcells_at fs vs k f u (by simpa using hf) (by simpa using hu)
    exact this
  | [], _, k, f, u, hf, _ => by simp at hf
  | _ :: _, [], k, f, u, _, hu => by simp at hu

def OwnF (w : World) (base : Nat) (tF tB : TypeId) (v : Value) (fs : List Fd) : Prop :=
  ∃ vs : List Value, vs.length = fs.length ∧ w.ownsRow base tF 2 v fs.length (fcells fs vs) ∧ ∀ (k : Nat) (f : Fd) (u : Value), fs[k]? = some f → vs[k]? = some u → OwnB w base tB u f.2

section
variable {w w' : World} {base : Nat} {tF tB : TypeId} {v : Value} {fs : List Fd}
theorem own_ne {e e' : TypeId} {size size' n n' : Nat} {u : Value} {xs ys : List Value} {b b' : Nat} (h : w.ownsRow b e size v n xs) (h' : w.ownsRow b' e' size' u n' ys) (hne : e ≠ e') : u.ownBlock = none ∨ u.ownBlock ≠ v.ownBlock := by
  rcases h'.2 with ⟨rfl, _⟩ | ⟨g', _, _, rfl, _, hg', _⟩
  · exact .inl rfl
  · right
    rcases h.2 with ⟨rfl, _⟩ | ⟨g, _, _, rfl, _, hg, _⟩
    · simp [Value.ownBlock]
    · intro he
      have : g' = g := by simpa [Value.ownBlock] using he
      subst this
      rw [hg] at hg'
      injection hg' with hg'
      injection hg' with _ ht
      exact hne ht
theorem OwnF.nil_ (w : World) (base : Nat) (tF tB : TypeId) : OwnF w base tF tB (.slice none 0 0) [] := ⟨[], rfl, World.ownsRow_nil w base tF 2, fun k f u hf _ => by simp at hf⟩
theorem OwnF.new0 (w : World) (base : Nat) (tF tB : TypeId) (hb : base ≤ w.heap.size) : OwnF (w.alloc (.cells #[] tF)) base tF tB (.slice (some ⟨w.heap.size, 0, none⟩) 0 0) [] :=
  ⟨[], rfl, ⟨rfl, .inr ⟨w.heap.size, 0, #[], rfl, hb, heap_alloc_new w _, Nat.le_refl _, by simp [maxLen], rfl, rfl⟩⟩, fun k f u hf _ => by simp at hf⟩
theorem OwnF.below (h : OwnF w base tF tB v fs) (hb : Below w.heap.size w w') : OwnF w' base tF tB v fs := by
  obtain ⟨vs, h1, h2, h3⟩ := h
  exact ⟨vs, h1, World.ownsRow.kept (row := none) h2 ⟨hb.os, hb.tape, hb.output, hb.size, fun k hk _ => hb.block k hk⟩ (by cases hv : v.ownBlock <;> simp), fun k f u hf hu => (h3 k f u hf hu).below hb⟩
theorem OwnF.lt (h : OwnF w base tF tB v fs) : ∀ k, v.ownBlock = some k → base ≤ k ∧ k < w.heap.size := by
  obtain ⟨vs, h1, h2, h3⟩ := h
  exact World.ownsRow.lt h2
theorem OwnF.base_ {base' : Nat} (h : OwnF w base tF tB v fs) (hb : base' ≤ base) : OwnF w base' tF tB v fs := by
  obtain ⟨vs, h1, h2, h3⟩ := h
  exact ⟨vs, h1, ⟨h2.1, h2.2.imp id fun ⟨g, cap, cur, hv, hg, r⟩ => ⟨g, cap, cur, hv, Nat.le_trans hb hg, r⟩⟩, fun k f u hf hu => (h3 k f u hf hu).base_ hb⟩
theorem OwnF.shape (h : OwnF w base tF tB v fs) : ∃ A cap, v = .slice A fs.length cap ∧ RF w w.heap.size A fs cap ∧ (∀ a, A = some a → base ≤ a.block) := by
  obtain ⟨vs, h1, h2, h3⟩ := h
  rcases h2.2 with ⟨rfl, hl⟩ | ⟨g, cap, cur, rfl, hb, hg, hc, hm, _⟩
  · refine ⟨none, 0, by rw [hl], ?_, fun a ha => by cases ha⟩
    have : fs = [] := List.eq_nil_of_length_eq_zero hl
    subst this
    exact RF.nil_ _ _
  · refine ⟨_, cap, rfl, ⟨hc, hm, .inr ⟨_, rfl, fun k f hf => ?_⟩⟩, fun a ha => by injection ha with ha; subst ha; exact hb⟩
    have hk : k < vs.length := by rw [h1]; exact (List.getElem?_eq_some_iff.1 hf).1
    have hu := List.getElem?_eq_getElem hk
    obtain ⟨c0, c1⟩ := fcells_at fs vs k f _ hf hu
    obtain ⟨V, c, hV, hr, _⟩ := (h3 k f _ hf hu).shape
    refine ⟨(Array.getElem?_eq_some_iff.1 hg).1, h2.cells (g := g) rfl _ _ c0, V, c, ?_, hr⟩
    rw [← hV]
    exact h2.cells (g := g) rfl _ _ c1
end

structure FieldT (P : Program) (t e : TypeId) : Prop where
  ht : P.underlying t = some (.slice e)
  hi : (P.info? e).map (fun i => (i.zero, i.size, i.bytes)) = some (some (.agg #[.int .i64 0, .slice none 0 0]), 2, 32)

section
variable {P : Program} {w : World} {ops : Array Oper} {rest : List Oper} {o : Oper} {a : Act} {Q : Exit → Act → World → Prop}

/-- 'append(fs, f)'. -/
theorem run_appF {t tF tB : TypeId} (hT : FieldT P t tF) (hne : tF ≠ tB) (ty : TypeId) {base : Nat} {v u : Value} {fs : List Fd} {f : Fd} {ad : Addr} {c : Nat} (hown : OwnF w base tF tB v fs) (hu : OwnB w base tB u f.2)
    (h0 : w.cell? ad = some (.int .i64 f.1)) (h1 : w.cell? (ad.add 1) = some u) (hlen : fs.length ≤ 1000000000000) (hbase : base ≤ w.heap.size) :
    ∃ v' w', (Builtin.append_ #[t, t] ty #[v, .slice (some ad) 1 c]).run P w = .ok v' w' ∧ OwnF w' base tF tB v' (fs ++ [f]) ∧ w.grownBy w' v.ownBlock ∧ (v'.ownBlock = v.ownBlock ∨ v'.ownBlock = some w.heap.size) := by
  obtain ⟨vs, hl, hrow, hvs⟩ := hown
  obtain ⟨i0, hi, hz0, hz1, hz2⟩ := info_parts hT.hi
  have hone : u.oneCell' = true := by
    obtain ⟨V, cc, rfl, _⟩ := hu.shape
    rfl
  obtain ⟨v', w', hrun, ho, hg, hn, hp⟩ := run_append_own_at (P := P) w base t ty tF i0 (.agg #[.int .i64 0, .slice none 0 0]) 2 32 hT.ht hi hz0 hz1 hz2 rfl (by decide) v fs.length (fcells fs vs) hrow
    ad 1 c [.int .i64 f.1, u] rfl (fun j x hx => by
      match j, hx with
      | 0, hx => simp at hx; subst hx; simpa [Addr.add] using h0
      | 1, hx => simp at hx; subst hx; exact h1
      | j + 2, hx => simp at hx) (fun x hx => by
      simp at hx
      rcases hx with rfl | rfl
      · rfl
      · exact hone) (by unfold maxLen; omega) (by omega) hbase
  refine ⟨v', w', hrun, ⟨vs ++ [u], by simp [hl], ?_, fun k f' u' hf hu' => ?_⟩, hg, hp⟩
  · rw [fcells_snoc fs vs hl, List.length_append]
    exact ho
  · by_cases hk : k < fs.length
    · rw [List.getElem?_append_left hk] at hf
      rw [List.getElem?_append_left (by omega)] at hu'
      have h2 := hvs k f' u' hf hu'
      exact World.ownsRow.kept h2 hg (own_ne hrow h2 hne)
    · have hk' : k = fs.length := by
        have := (List.getElem?_eq_some_iff.1 hf).1
        simp at this
        omega
      subst hk'
      rw [List.getElem?_append_right (Nat.le_refl _)] at hf
      rw [← hl, List.getElem?_append_right (Nat.le_refl _)] at hu'
      simp at hf hu'
      subst hf hu'
      exact World.ownsRow.kept hu hg (own_ne hrow hu hne)

theorem wp_appF {K : Act → World → Prop} {d : Option Tmp} {t tF tB : TypeId} (hT : FieldT P t tF) (hne : tF ≠ tB) (hd : o.dst = d) (s x : Operand)
    (ho : o.op = .call { callee := .builtin .append, args := #[s, x], argTypes := #[t, t] })
    {base : Nat} {v u : Value} {fs : List Fd} {f : Fd} {ad : Addr} {c : Nat} (hown : OwnF w base tF tB v fs) (hu : OwnB w base tB u f.2)
    (h0 : w.cell? ad = some (.int .i64 f.1)) (h1 : w.cell? (ad.add 1) = some u)
    (hs : a.eval s = v) (hx : a.eval x = .slice (some ad) 1 c) (hlen : fs.length ≤ 1000000000000) (hbase : base ≤ w.heap.size)
    (h : ∀ v' w', OwnF w' base tF tB v' (fs ++ [f]) → w.grownBy w' v.ownBlock → K (a.put d v') w') : o.wp P a w K Q := by
  subst hd
  obtain ⟨v', w', hrun, h2, h3, h5⟩ := run_appF hT hne o.type hown hu h0 h1 hlen hbase
  unfold Oper.wp execOp
  simp only [ho, resolve, invoke, builtin, Sem.run_bind, Sem.run_pure, Result.andThen_ok, List.map_toArray, List.map_cons, List.map_nil, hs, hx]
  rw [hrun]
  exact h v' w' h2 h3

theorem wpList_appF {t tF tB : TypeId} (hT : FieldT P t tF) (hne : tF ≠ tB) (hgd : o.guard = none) (s x : Operand)
    (ho : o.op = .call { callee := .builtin .append, args := #[s, x], argTypes := #[t, t] })
    {base : Nat} {v u : Value} {fs : List Fd} {f : Fd} {ad : Addr} {c : Nat} (hown : OwnF w base tF tB v fs) (hu : OwnB w base tB u f.2)
    (h0 : w.cell? ad = some (.int .i64 f.1)) (h1 : w.cell? (ad.add 1) = some u)
    (hs : a.eval s = v) (hx : a.eval x = .slice (some ad) 1 c) (hlen : fs.length ≤ 1000000000000) (hbase : base ≤ w.heap.size)
    (h : ∀ v' w', OwnF w' base tF tB v' (fs ++ [f]) → w.grownBy w' v.ownBlock → (v'.ownBlock = v.ownBlock ∨ v'.ownBlock = some w.heap.size) → wpList P ops Q rest (a.put o.dst v') w') : wpList P ops Q (o :: rest) a w := by
  refine wpList_plain hgd fun K hK => ?_
  obtain ⟨v', w', hrun, h2, h3, h5⟩ := run_appF hT hne o.type hown hu h0 h1 hlen hbase
  unfold Oper.wp execOp
  simp only [ho, resolve, invoke, builtin, Sem.run_bind, Sem.run_pure, Result.andThen_ok, List.map_toArray, List.map_cons, List.map_nil, hs, hx]
  rw [hrun]
  exact hK _ _ (h v' w' h2 h3 h5)
end
end Go.Proofs.YtfpcabfpnekejaaDoor
