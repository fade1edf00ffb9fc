/- '[]byte(s)'; the walk of PtyPlain. -/
import Derived.Test.YtbkaabimafipoaaPtg
namespace Go.Proofs.Ytbkaabimafipoaa
open Go.ChangeShapes Go.WideShapes Go.RowKit

/-- A row of bytes of the call's own, a mark behind it or none. -/
def OwnG (w : World) (base : Nat) (e : TypeId) (v : Value) (l : List UInt8) : Prop :=
  (v = .slice none 0 0 ∧ l = []) ∨ ∃ (g cap : Nat) (cur : Array Value) (fz : Nat × Nat), v = .slice (some ⟨g, 0, none⟩) l.length cap ∧ base ≤ g ∧ w.heap[g]? = some (.cells cur e fz) ∧ l.length ≤ cap ∧ cap ≤ maxLen ∧ cur.size = cap ∧ cur.toList.take l.length = bcells l ∧ (fz.2 = 0 ∨ cap ≤ fz.1)

theorem OwnG.shape {w : World} {base : Nat} {e : TypeId} {v : Value} {l : List UInt8} (h : OwnG w base e v l) : ∃ A cap, v = .slice A l.length cap ∧ RB w w.heap.size A l cap ∧ (∀ g, v.ownBlock = some g → base ≤ g ∧ g < w.heap.size) := by
  rcases h with ⟨rfl, rfl⟩ | ⟨g, cap, cur, fz, rfl, hb, hg, hc, hm, hcs, ht, -⟩
  · exact ⟨none, 0, rfl, RB.nil_ _ _, fun g hg => by simp [Value.ownBlock] at hg⟩
  · have hlt := (Array.getElem?_eq_some_iff.1 hg).1
    refine ⟨_, cap, rfl, ⟨hc, hm, .inr ⟨_, rfl, fun k u hu => ⟨hlt, ?_⟩⟩⟩, fun g' hg' => by simp [Value.ownBlock] at hg'; omega⟩
    rw [Addr.add_lit, Nat.zero_add, cell_of_row w g k cur e fz hg, ← Array.getElem?_toList]
    have hk : k < l.length := (List.getElem?_eq_some_iff.1 hu).1
    have h1 : (cur.toList.take l.length)[k]? = some (.int .u8 (u.toNat : Int)) := by rw [ht, bcells_at, hu]; rfl
    rwa [List.getElem?_take_of_lt hk] at h1
theorem OwnG.kept {w w' : World} {base : Nat} {e : TypeId} {v : Value} {l : List UInt8} (h : OwnG w base e v l) (hg : w.grownBy w' none) : OwnG w' base e v l := by
  rcases h with h | ⟨g, cap, cur, fz, hv, hb, h1, r⟩
  · exact .inl h
  · exact .inr ⟨g, cap, cur, fz, hv, hb, (hg.block g (Array.getElem?_eq_some_iff.1 h1).1 (fun e => by cases e)).trans h1, r⟩
section
variable {P : Program} {w : World} {ops : Array Oper} {rest : List Oper} {o : Oper} {a : Act} {Q : Exit → Act → World → Prop}
/-- '[]byte(s)'. -/
theorem run_convG {src t e : TypeId} (hT : ByteT P t e) (hs : P.underlying src = some .string) (s : ByteArray) (hl : s.size ≤ 70368744177664) :
    ∃ v' w', (convert src t (.string s)).run P w = .ok v' w' ∧ OwnG w' w.heap.size e v' s.data.toList ∧ w.grownBy w' none ∧ v'.ownBlock = some w.heap.size := by
  have hr := run_bytes_of_string (P := P) w src t e s hs hT.ht hT.he
  have hge := grownCap_ge w s.size 0 e
  have hcm : grownCap w s.size 0 e ≤ maxLen := grownCap_le_maxLen w s.size 0 e (by unfold maxLen; omega)
  have hsz : (bytesRow s (grownCap w s.size 0 e)).size = grownCap w s.size 0 e := by
    have : s.data.size = s.size := rfl
    simp [bytesRow]
    omega
  rw [hsz] at hr
  refine ⟨_, _, hr, .inr ⟨w.heap.size, _, _, (grownCap w s.size 0 e, grownCap w s.size 0 e + 1), rfl, Nat.le_refl _, ?_, hge, hcm, hsz, ?_, .inr (Nat.le_refl _)⟩, ⟨rfl, rfl, rfl, by simp, fun j hj _ => Below.heap_alloc w.drew _ j hj⟩, rfl⟩
  · show (w.heap.push _)[w.heap.size]? = _
    simp
  · have : s.data.toList.length = s.size := rfl
    simp only [bytesRow, Array.toList_append, Array.toList_map]
    exact List.take_left' (by simp)
theorem wpList_convG {src t e : TypeId} (hT : ByteT P t e) (hs : P.underlying src = some .string) (hgd : o.guard = none) (x : Operand) (ho : o.op = .convert src t x) (s : ByteArray) (hl : s.size ≤ 70368744177664) (hx : a.eval x = .string s)
    (h : ∀ v' w', OwnG w' w.heap.size e v' s.data.toList → w.grownBy w' none → v'.ownBlock = some w.heap.size → wpList P ops Q rest (a.put o.dst v') w') : wpList P ops Q (o :: rest) a w := by
  refine wpList_plain hgd fun K hK => ?_
  obtain ⟨v', w', hrun, h2, h3, h4⟩ := run_convG (w := w) hT hs s hl
  unfold Oper.wp execOp
  simp only [ho, hx, Sem.run_bind, Sem.run_pure, Result.andThen_ok, hrun]
  exact hK _ _ (h v' w' h2 h3 h4)
end
/-- What was made behind a Pty is apart from it. -/
theorem PT.apart {w : World} {base p : Nat} {v : Value} {s : Tm} (h : PT w base p v s) {A : Option Addr} {n c : Nat} (hA : ∀ g, (Value.slice A n c).ownBlock = some g → w.heap.size ≤ g) (l : List UInt8) : ∀ a, A = some a → 0 < l.length → a.block ≠ p ∧ v.ownBlock ≠ some a.block := by
  intro a ha _
  subst ha
  have h1 := hA a.block rfl
  exact ⟨by have := h.lt.2; omega, fun e => by have := (h.vlt _ e).2.1; omega⟩
theorem PT.alloc {w : World} {base p : Nat} {v : Value} {s : Tm} (h : PT w base p v s) (o : Obj) : PT (w.alloc o) base p v s := h.made (grown_alloc _ _ none)
theorem sb_toList (s : ByteArray) : sb s.data.toList = s := by
  apply ByteArray.ext
  simp [sb]
theorem app_toList (s : ByteArray) (A : Array UInt8) : (s ++ ⟨A⟩).data.toList = s.data.toList ++ A.toList := by simp
theorem all_take (l : List UInt8) (f : UInt8 → Bool) (k : Nat) (hk : k < l.length) : (l.take (k + 1)).all f = ((l.take k).all f && f l[k]) := by
  rw [List.take_succ_eq_append_getElem hk, List.all_append]
  simp
/-- A Feed of what was made behind the Pty: what the laws ask of it. -/
theorem feed_own {w W : World} {base p : Nat} {v : Value} {s : Tm} (hW : W.grownBy w none) (h : PT w base p v s) (hb : W.heap.size ≤ base) (hb2 : base ≤ w.heap.size) (A : Option Addr) (l : List UInt8) (n cap : Nat) (hn : l.length = n) (hr : RB w w.heap.size A l cap) (ha : ∀ a, A = some a → 0 < l.length → a.block ≠ p ∧ v.ownBlock ≠ some a.block)
    (hnl : n ≤ 3000) (hl : s.line.length ≤ 80) (hst : s.stops ≤ 1000000000) :
    Calls Try.prog 10 #[.pointer (some ⟨p, 0, none⟩), .slice A n cap] w fun e w' => ∃ v' A1 c1 A2 c2, e = .returned (.tuple #[.slice A1 (fdF s l).2.1.length c1, .slice A2 (fdF s l).2.2.length c2]) ∧ PT w' base p v' (fdF s l).1 ∧
      RB w' w'.heap.size A1 (fdF s l).2.1 c1 ∧ RS w' w'.heap.size A2 ((fdF s l).2.2.map sb) c2 ∧ W.grownBy w' none := by
  refine (feed_any h hb2 A l n cap hn hr ha hnl hl hst).mono ?_
  rintro e w' ⟨v', sv, lv, rfl, h1, h2, h3, h4, h5, h6⟩
  obtain ⟨A1, c1, rfl, r1, -⟩ := h2.shape
  obtain ⟨A2, c2, rfl, r2, -⟩ := h3.shape
  rw [List.length_map]
  exact ⟨v', A1, c1, A2, c2, rfl, h1, r1, r2, none_feed hW h hb h4⟩
end Go.Proofs.Ytbkaabimafipoaa
