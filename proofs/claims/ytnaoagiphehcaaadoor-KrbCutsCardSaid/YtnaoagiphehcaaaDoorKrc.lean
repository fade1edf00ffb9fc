/- Rows of fields of the call's own whose values are readable, wherever they lie; the walk of krb.Write. -/
import Derived.Test.YtnaoagiphehcaaaDoorKrb
namespace Go.Proofs.YtnaoagiphehcaaaDoor
open Go.RowKit

theorem RB.apart {w w' : World} {r : Option Nat} {A : Option Addr} {l : List UInt8} {c : Nat} (h : RB w w.heap.size A l c) (hg : w.grownBy w' r) (ha : ∀ a, A = some a → l = [] ∨ r ≠ some a.block) : RB w' w'.heap.size A l c := by
  refine ⟨h.1, h.2.1, h.2.2.imp id fun ⟨a, hA, hc⟩ => ⟨a, hA, fun k u hu => ?_⟩⟩
  obtain ⟨hb, hcell⟩ := hc k u hu
  refine ⟨Nat.lt_of_lt_of_le hb hg.size, ?_⟩
  have hne : r ≠ some a.block := by
    rcases ha a hA with rfl | h1
    · simp at hu
    · exact h1
  have hblk := hg.block a.block hb (fun e => hne e.symm)
  rw [← hcell]
  unfold World.cell?
  rw [show (a.add k).block = a.block from add_block _ _, hblk]
/-- A row of fields of the call's own; the values can be read. -/
def OwnR (w : World) (base : Nat) (v : Value) (fs : List Fd) : Prop :=
  ∃ vs : List Value, vs.length = fs.length ∧ w.ownsRow base 126 2 v fs.length (fcells fs vs) ∧
    ∀ (k : Nat) (f : Fd) (u : Value), fs[k]? = some f → vs[k]? = some u → ∃ A c, u = .slice A f.2.length c ∧ RB w w.heap.size A f.2 c ∧ (∀ a, A = some a → f.2 = [] ∨ v.ownBlock ≠ some a.block)
theorem OwnR.nil_ (w : World) (base : Nat) : OwnR w base (.slice none 0 0) [] := ⟨[], rfl, World.ownsRow_nil w base _ 2, fun k f u hf _ => by simp at hf⟩
theorem OwnR.lt {w : World} {base : Nat} {v : Value} {fs : List Fd} (h : OwnR w base v fs) : ∀ k, v.ownBlock = some k → base ≤ k ∧ k < w.heap.size := by
  obtain ⟨vs, h1, h2, h3⟩ := h
  exact World.ownsRow.lt h2
theorem OwnR.kept {w w' : World} {base : Nat} {v : Value} {fs : List Fd} (h : OwnR w base v fs) (hg : w.grownBy w' none) : OwnR w' base v fs := by
  obtain ⟨vs, h1, h2, h3⟩ := h
  refine ⟨vs, h1, World.ownsRow.kept (row := none) h2 hg (by cases hv : v.ownBlock <;> simp), fun k f u hf hu => ?_⟩
  obtain ⟨A, c, hv, hr, ha⟩ := h3 k f u hf hu
  exact ⟨A, c, hv, hr.keptB hg, ha⟩
theorem OwnR.shape {w : World} {base : Nat} {v : Value} {fs : List Fd} (h : OwnR w base v fs) : ∃ A cap, v = .slice A fs.length cap ∧ RF w w.heap.size A fs cap := by
  obtain ⟨vs, h1, h2, h3⟩ := h
  rcases h2.2 with ⟨rfl, hl⟩ | ⟨g, cap, cur, rfl, hb, hg, hc, hm, _⟩
  · refine ⟨none, 0, by rw [hl], ?_⟩
    have : fs = [] := List.eq_nil_of_length_eq_zero hl
    subst this
    exact RF.nil_ _ _
  · refine ⟨_, cap, rfl, ⟨hc, hm, .inr ⟨_, rfl, fun k f hf => ?_⟩⟩⟩
    have hk : k < vs.length := by rw [h1]; exact (List.getElem?_eq_some_iff.1 hf).1
    have hu := List.getElem?_eq_getElem hk
    obtain ⟨c0, c1⟩ := fcells_at fs vs k f _ hf hu
    obtain ⟨V, c, hV, hr, _⟩ := h3 k f _ hf hu
    refine ⟨(Array.getElem?_eq_some_iff.1 hg).1, h2.cells (g := g) rfl _ _ c0, V, c, ?_, hr⟩
    rw [← hV]
    exact h2.cells (g := g) rfl _ _ c1

section
variable {P : Program} {w : World} {ops : Array Oper} {rest : List Oper} {o : Oper} {a : Act} {Q : Exit → Act → World → Prop}
theorem run_appR {t : TypeId} (hT : FieldT P t 126) (ty : TypeId) {base : Nat} {v : Value} {fs : List Fd} {f : Fd} {ad : Addr} {c : Nat} {V : Option Addr} {vc : Nat} (hown : OwnR w base v fs) (hu : RB w w.heap.size V f.2 vc) (hap : ∀ a, V = some a → f.2 = [] ∨ v.ownBlock ≠ some a.block)
    (h0 : w.cell? ad = some (.int .i64 f.1)) (h1 : w.cell? (ad.add 1) = some (.slice V f.2.length vc)) (hlen : fs.length ≤ 1000000) (hbase : base ≤ w.heap.size) :
    ∃ v' w', (Builtin.append_ #[t, t] ty #[v, .slice (some ad) 1 c]).run P w = .ok v' w' ∧ OwnR w' base v' (fs ++ [f]) ∧ w.grownBy w' v.ownBlock := by
  obtain ⟨vs, hl, hrow, hvs⟩ := hown
  obtain ⟨i0, hi, hz0, hz1, hz2⟩ := info_parts hT.hi
  obtain ⟨v', w', hrun, ho, hg, hn, hp⟩ := run_append_own_at (P := P) w base t ty 126 i0 (.agg #[.int .i64 0, .slice none 0 0]) 2 32 hT.ht hi hz0 hz1 hz2 rfl (by decide) v fs.length (fcells fs vs) hrow
    ad 1 c [.int .i64 f.1, .slice V f.2.length vc] rfl (fun j x hx => by
      match j, hx with
      | 0, hx => simp at hx; subst hx; simpa [Addr.add] using h0
      | 1, hx => simp at hx; subst hx; exact h1
      | j + 2, hx => simp at hx) (fun x hx => by
      simp at hx
      rcases hx with rfl | rfl
      · rfl
      · rfl) (by unfold maxLen; omega) (by omega) hbase
  have hfar : ∀ (A : Option Addr) (l : List UInt8) (c : Nat), RB w w.heap.size A l c → (∀ a, A = some a → l = [] ∨ v.ownBlock ≠ some a.block) → ∀ a, A = some a → l = [] ∨ v'.ownBlock ≠ some a.block := by
    intro A l c hr ha x hx
    rcases hr.ahead x hx with h | h
    · exact .inl h
    · rcases hp with hp | hp
      · rw [hp]; exact ha x hx
      · refine .inr ?_
        rw [hp]
        intro he
        injection he with he
        omega
  refine ⟨v', w', hrun, ⟨vs ++ [.slice V f.2.length vc], by simp [hl], ?_, fun k f' u' hf hu' => ?_⟩, hg⟩
  · rw [fcells_snoc fs vs hl, List.length_append]
    exact ho
  · by_cases hk : k < fs.length
    · rw [List.getElem?_append_left hk] at hf
      rw [List.getElem?_append_left (by omega)] at hu'
      obtain ⟨A, c', hv, hr, ha⟩ := hvs k f' u' hf hu'
      exact ⟨A, c', hv, hr.apart hg ha, hfar A _ c' hr ha⟩
    · have hk' : k = fs.length := by
        have := (List.getElem?_eq_some_iff.1 hf).1
        simp at this
        omega
      subst hk'
      rw [List.getElem?_append_right (Nat.le_refl _)] at hf
      rw [← hl, List.getElem?_append_right (Nat.le_refl _)] at hu'
      simp at hf hu'
      subst hf hu'
      exact ⟨V, vc, rfl, hu.apart hg hap, hfar V _ vc hu hap⟩
theorem wpList_appR {t : TypeId} (hT : FieldT P t 126) (hgd : o.guard = none) (s x : Operand)
    (ho : o.op = .call { callee := .builtin .append, args := #[s, x], argTypes := #[t, t] })
    {base : Nat} {v : Value} {fs : List Fd} {f : Fd} {ad : Addr} {c : Nat} {V : Option Addr} {vc : Nat} (hown : OwnR w base v fs) (hu : RB w w.heap.size V f.2 vc) (hap : ∀ a, V = some a → f.2 = [] ∨ v.ownBlock ≠ some a.block)
    (h0 : w.cell? ad = some (.int .i64 f.1)) (h1 : w.cell? (ad.add 1) = some (.slice V f.2.length vc))
    (hs : a.eval s = v) (hx : a.eval x = .slice (some ad) 1 c) (hlen : fs.length ≤ 1000000) (hbase : base ≤ w.heap.size)
    (h : ∀ v' w', OwnR w' base v' (fs ++ [f]) → w.grownBy w' v.ownBlock → wpList P ops Q rest (a.put o.dst v') w') : wpList P ops Q (o :: rest) a w := by
  refine wpList_plain hgd fun K hK => ?_
  obtain ⟨v', w', hrun, h2, h3⟩ := run_appR hT o.type hown hu hap h0 h1 hlen hbase
  unfold Oper.wp execOp
  simp only [ho, resolve, invoke, builtin, Sem.run_bind, Sem.run_pure, Result.andThen_ok, List.map_toArray, List.map_cons, List.map_nil, hs, hx]
  rw [hrun]
  exact hK _ _ (h v' w' h2 h3)
end

theorem CB.two (w : World) (t : TypeId) (a b : Value) : (w.alloc (.cells #[a, b] t)).cell? ⟨w.heap.size, 0, none⟩ = some a ∧ (w.alloc (.cells #[a, b] t)).cell? ((⟨w.heap.size, 0, none⟩ : Addr).add 1) = some b := by
  have h := CB.new w t [a, b]
  exact ⟨h.at_ rfl, h.at_ (i := 1) rfl⟩
/-- 'append(fs, api.Field{Tag: tg, Value: u})', the literal just made. -/
theorem wpList_appLit {P : Program} {w : World} {ops : Array Oper} {rest : List Oper} {o : Oper} {a : Act} {Q : Exit → Act → World → Prop} {t : TypeId} (hT : FieldT P t 126) (hgd : o.guard = none) (s x : Operand)
    (ho : o.op = .call { callee := .builtin .append, args := #[s, x], argTypes := #[t, t] })
    {base n : Nat} {v : Value} {fs : List Fd} {tg : Int} {L : List UInt8} {V : Option Addr} {vc : Nat} (hn : L.length = n) (hown : OwnR w base v fs) (hu : RB w w.heap.size V L vc) (hap : ∀ a, V = some a → L = [] ∨ v.ownBlock ≠ some a.block)
    (hs : a.eval s = v) (hx : a.eval x = .slice (some ⟨w.heap.size, 0, none⟩) 1 1) (hlen : fs.length ≤ 1000000) (hbase : base ≤ w.heap.size)
    (h : ∀ v' w', OwnR w' base v' (fs ++ [(tg, L)]) → (w.alloc (.cells #[.int .i64 tg, .slice V n vc] 126)).grownBy w' v.ownBlock → wpList P ops Q rest (a.put o.dst v') w') :
    wpList P ops Q (o :: rest) a (w.alloc (.cells #[.int .i64 tg, .slice V n vc] 126)) := by
  subst hn
  have hg := grown_alloc w (.cells #[.int .i64 tg, .slice V L.length vc] 126) none
  exact wpList_appR (f := (tg, L)) hT hgd s x ho (hown.kept hg) (hu.keptB hg) hap (CB.two w _ _ _).1 (CB.two w _ _ _).2 hs hx hlen (Nat.le_trans hbase hg.size) h

/-- A message's fields. -/
def fieldsK (m : Msg) : List Fd := (tagsK m.kd).map fun t => (t, valK m t)
def bytesK (m : Msg) : List UInt8 := bytesF (fieldsK m)
theorem tagsK_in (k t : Int) (h : t ∈ tagsK k) : 31 ≤ t ∧ t ≤ 39 := by
  unfold tagsK at h
  repeat' split at h
  all_goals first
    | (simp at h; done)
    | (simp only [List.mem_cons, List.not_mem_nil, or_false] at h; omega)
/-- Every value is no longer than its message lets it be. -/
def lensK (m : Msg) : Prop := m.c.size ≤ 10000 ∧ m.s.size ≤ 10000 ∧ m.t.length ≤ 60000 ∧ m.sl.length ≤ 60000
theorem valK_length (m : Msg) (h : lensK m) (t : Int) : (valK m t).length ≤ 60000 := by
  obtain ⟨h1, h2, h3, h4⟩ := h
  have e1 : m.c.data.toList.length = m.c.size := rfl
  have e2 : m.s.data.toList.length = m.s.size := rfl
  have n1 := numB_length (u64n m.kd)
  have n2 := numB_length m.no
  have n3 := numB_length (u64n m.en)
  have n4 := numB_length (u64n m.fl)
  have n5 := numB_length (u64n m.co)
  unfold valK
  repeat' split
  all_goals first | omega | simp
theorem fieldsK_chk (m : Msg) (h : lensK m) : ∀ f ∈ fieldsK m, chk f = 0 := by
  intro f hf
  obtain ⟨t, ht, rfl⟩ := List.mem_map.1 hf
  obtain ⟨h1, h2⟩ := tagsK_in _ _ ht
  exact chk_ok (show (1 : Int) ≤ t by omega) (show t ≤ 255 by omega) (show (valK m t).length ≤ 65535 by have := valK_length m h t; omega)
theorem tot_le (fs : List Fd) (n : Nat) (h : ∀ f ∈ fs, f.2.length ≤ n) : tot fs ≤ fs.length * (n + 3) := by
  induction fs with
  | nil => simp [tot]
  | cons f fs ih =>
    have h1 := h f (by simp)
    have h2 := ih fun g hg => h g (by simp [hg])
    have : tot (f :: fs) = f.2.length + 3 + tot fs := by simp [tot]
    rw [this, List.length_cons, Nat.succ_mul]
    omega
theorem fieldsK_tot (m : Msg) (h : lensK m) : tot (fieldsK m) ≤ 1000000 := by
  have h1 := tot_le (fieldsK m) 60000 (fun f hf => by
    obtain ⟨t, _, rfl⟩ := List.mem_map.1 hf
    exact valK_length m h t)
  have h2 : (fieldsK m).length ≤ 7 := by unfold fieldsK; rw [List.length_map]; exact tagsK_length _
  have h3 : (fieldsK m).length * (60000 + 3) ≤ 7 * (60000 + 3) := Nat.mul_le_mul_right _ h2
  omega
theorem okK_tags {m : Msg} (h : okK m = true) : tagsK m.kd ≠ [] := by
  unfold okK at h
  simp only [Bool.and_eq_true, decide_eq_true_eq] at h
  exact h.1

end Go.Proofs.YtnaoagiphehcaaaDoor
