/- A Sealer by symbols: Seal. -/
import Derived.Test.YthgejidimnbplaaGreatDoorSec
import Derived.Test.YthgejidimnbplaaGreatDoorBsl
namespace Go.Proofs.YthgejidimnbplaaGreatDoor
open Go.RowKit Go.Maps

def SedF (s B hd d m : Nat) (vl : Value) (rows : List (List Value)) (te : Te) (A : Option Addr) (n cap : Nat) : Nat → Value → World → Prop
  | 0, v, _ => v = .pointer (some ⟨s, 0, none⟩)
  | 1, v, _ => v = .pointer (some ⟨s, 0, none⟩)
  | 2, v, _ => v = .pointer (some ⟨s, 0, none⟩)
  | 3, v, _ => v = .pointer (some ⟨s, 19, none⟩)
  | 4, v, _ => v = vl
  | 5, v, _ => v = .agg (bcells te.1).toArray
  | 6, v, _ => v = .int .i64 te.2.1
  | 7, v, _ => v = .slice A n cap
  | 8, v, x => ∃ A' c', v = .slice A' n c' ∧ OwnB x hd 5 (.slice A' n c') te.2.2
  | 9, v, x => ∃ A' c', v = .agg (teC te A' c').toArray ∧ OwnB x hd 5 (.slice A' n c') te.2.2
  | 10, v, x => ∃ g A' c', v = .slice (some ⟨g, 0, none⟩) 1 1 ∧ CB x g 50 (teC te A' c') ∧ hd ≤ g ∧ OwnB x hd 5 (.slice A' n c') te.2.2
  | 11, v, x => ∃ A' c', RowX x B 50 18 v (rows ++ [teC te A' c']) ∧ OwnB x hd 5 (.slice A' n c') te.2.2 ∧ v.ownBlock ≠ some s ∧ (v.ownBlock = vl.ownBlock ∨ ∃ g, v.ownBlock = some g ∧ hd ≤ g) ∧ (∀ z, (Value.slice A' n c').ownBlock = some z → v.ownBlock ≠ some z)
  | 12, v, _ => v = .pointer (some ⟨s, 0, none⟩)
  | 13, v, _ => v = .pointer (some ⟨s, 19, none⟩)
  | 14, _, x => ∃ v A' c', CB x s 46 (seC d m v) ∧ RowX x B 50 18 v (rows ++ [teC te A' c']) ∧ OwnB x hd 5 (.slice A' n c') te.2.2 ∧ (v.ownBlock = vl.ownBlock ∨ ∃ g, v.ownBlock = some g ∧ hd ≤ g) ∧ (∀ z, (Value.slice A' n c').ownBlock = some z → v.ownBlock ≠ some z)
  | _, _, _ => True
def SedT (s : Nat) (vl : Value) : Nat → World → World → Prop
  | 8, x, y => x.grownBy y none
  | 10, x, y => x.grownBy y none
  | 11, x, y => x.grownBy y vl.ownBlock
  | 14, x, y => x.grownBy y (some s)
  | _, x, y => x = y
theorem SedT.same {s : Nat} {vl : Value} {i : Nat} {x y : World} (h8 : i ≠ 8) (h10 : i ≠ 10) (h11 : i ≠ 11) (h14 : i ≠ 14) (h : SedT s vl i x y) : x = y := by
  unfold SedT at h
  split at h
  · exact absurd rfl h8
  · exact absurd rfl h10
  · exact absurd rfl h11
  · exact absurd rfl h14
  · exact h
theorem OwnB.kept_ {w w' : World} {base : Nat} {e : TypeId} {v : Value} {l : List UInt8} {r : Option Nat} (h : OwnB w base e v l) (hg : w.grownBy w' r) (hr : ∀ z, r = some z → z < base) : OwnB w' base e v l := by
  refine World.ownsRow.kept h hg ?_
  cases hv : v.ownBlock with
  | none => exact .inl rfl
  | some z =>
    right
    intro e
    have := (OwnB.lt h z hv).1
    have := hr z e.symm
    omega
theorem CB.kept_ {w w' : World} {g : Nat} {t : TypeId} {cs : List Value} {r : Option Nat} {hd : Nat} (h : CB w g t cs) (hg : w.grownBy w' r) (hgd : hd ≤ g) (hr : ∀ z, r = some z → z < hd) : CB w' g t cs := (hg.block g h.lt (fun e => by have := hr g e.symm; omega)).trans h
/-- What doesn't hang on the row that is written, nor on the Sealer. -/
theorem SedF.off {s B hd d m : Nat} {vl : Value} {rows : List (List Value)} {te : Te} {A : Option Addr} {n cap : Nat} {r : Option Nat} {j : Nat} {v : Value} {x y : World} (hg : x.grownBy y r) (hr : ∀ z, r = some z → z < hd) (h11 : j = 11 → r = some s ∨ r = none) (h14 : j = 14 → r = none) (h : SedF s B hd d m vl rows te A n cap j v x) : SedF s B hd d m vl rows te A n cap j v y := by
  unfold SedF at h ⊢
  split at h
  · exact h
  · exact h
  · exact h
  · exact h
  · exact h
  · exact h
  · exact h
  · exact h
  · obtain ⟨A', c', h1, h2⟩ := h
    exact ⟨A', c', h1, OwnB.kept_ h2 hg hr⟩
  · obtain ⟨A', c', h1, h2⟩ := h
    exact ⟨A', c', h1, OwnB.kept_ h2 hg hr⟩
  · obtain ⟨g, A', c', h1, h2, h3, h4⟩ := h
    exact ⟨g, A', c', h1, h2.kept_ hg h3 hr, h3, OwnB.kept_ h4 hg hr⟩
  · obtain ⟨A', c', h1, h2, h3, h4, h5⟩ := h
    refine ⟨A', c', ?_, OwnB.kept_ h2 hg hr, h3, h4, h5⟩
    rcases h11 rfl with e | e
    · subst e; exact h1.row hg h3
    · subst e; exact h1.none hg
  · exact h
  · exact h
  · obtain ⟨v, A', c', h1, h2, h3, h4, h5⟩ := h
    obtain rfl := h14 rfl
    exact ⟨v, A', c', h1.kept hg, h2.none hg, OwnB.kept_ h3 hg hr, h4, h5⟩
  · trivial
theorem SedF.step {s B hd d m : Nat} {vl : Value} {rows : List (List Value)} {te : Te} {A : Option Addr} {n cap : Nat} (hs : s < hd) (hv : ∀ z, vl.ownBlock = some z → z < hd) (i j : Nat) (v : Value) (x y : World) (hji : j ≠ i) (hT : SedT s vl i x y) (hF : SedF s B hd d m vl rows te A n cap j v x) (h14 : j = 14 → i = 11 → False) : SedF s B hd d m vl rows te A n cap j v y := by
  by_cases a8 : i = 8
  · subst a8; exact SedF.off (r := none) hT (fun z e => by cases e) (fun _ => .inr rfl) (fun _ => rfl) hF
  by_cases a10 : i = 10
  · subst a10; exact SedF.off (r := none) hT (fun z e => by cases e) (fun _ => .inr rfl) (fun _ => rfl) hF
  by_cases a11 : i = 11
  · subst a11; exact SedF.off (r := vl.ownBlock) hT hv (fun e => absurd e hji) (fun e => (h14 e rfl).elim) hF
  by_cases a14 : i = 14
  · subst a14; exact SedF.off (r := some s) hT (fun z e => by injection e with e; omega) (fun _ => .inl rfl) (fun e => absurd e hji) hF
  rw [← SedT.same a8 a10 a11 a14 hT]
  exact hF
/-- Two blocks alone are written, and new ones made. -/
structure Wrs (w w' : World) (s : Nat) (r : Option Nat) : Prop where
  os : w'.os = w.os
  tape : w'.tape = w.tape
  output : w'.output = w.output
  size : w.heap.size ≤ w'.heap.size
  block : ∀ k, k < w.heap.size → k ≠ s → some k ≠ r → w'.heap[k]? = w.heap[k]?
theorem Wrs.refl (w : World) (s : Nat) (r : Option Nat) : Wrs w w s r := ⟨rfl, rfl, rfl, Nat.le_refl _, fun _ _ _ _ => rfl⟩
theorem Wrs.drew {w w' : World} {s : Nat} {r : Option Nat} (h : Wrs w w' s r) : Wrs w w'.drew s r := ⟨h.os, h.tape, h.output, h.size, h.block⟩
theorem Wrs.next {w x y : World} {s : Nat} {r q : Option Nat} (h : Wrs w x s r) (hg : x.grownBy y q) (hq : ∀ z, q = some z → z = s ∨ some z = r ∨ w.heap.size ≤ z) : Wrs w y s r :=
  ⟨hg.os.trans h.os, hg.tape.trans h.tape, hg.output.trans h.output, Nat.le_trans h.size hg.size, fun k hk hs hr => (hg.block k (Nat.lt_of_lt_of_le hk h.size) (fun e => by
    rcases hq k e.symm with e | e | e
    · exact hs e
    · exact hr e
    · omega)).trans (h.block k hk hs hr)⟩
theorem Wrs.below {w w' : World} {s B : Nat} {r : Option Nat} (h : Wrs w w' s r) (hs : B ≤ s) (hr : ∀ z, r = some z → B ≤ z) (hB : B ≤ w.heap.size) : Below B w w' :=
  ⟨h.os, h.tape, h.output, h.size, fun k hk => h.block k (Nat.lt_of_lt_of_le hk hB) (by omega) (fun e => by have := hr k e.symm; omega)⟩
theorem RB.wrs {w w' : World} {s : Nat} {r : Option Nat} {A : Option Addr} {l : List UInt8} {c : Nat} (h : RB w w.heap.size A l c) (hw : Wrs w w' s r) (ha : ∀ a, A = some a → l = [] ∨ (a.block ≠ s ∧ r ≠ some a.block)) : RB w' w.heap.size A l c := by
  obtain ⟨h1, h2, h3⟩ := h
  refine ⟨h1, h2, ?_⟩
  rcases h3 with h3 | ⟨a, h3, h4⟩
  · exact .inl h3
  · refine .inr ⟨a, h3, fun k u hu => ?_⟩
    obtain ⟨h5, h6⟩ := h4 k u hu
    refine ⟨h5, ?_⟩
    have hb := (ha a h3).resolve_left (fun e => by subst e; simp at hu)
    have hab : (a.add k).block = a.block := by unfold Addr.add; split <;> rfl
    exact (World.cell?_of_block (w := w) (w' := w') (a := a.add k) (by rw [hab]; exact hw.block a.block h5 hb.1 (fun e => hb.2 e.symm))).trans h6
def SedG (w : World) (s B gK d m : Nat) (vl : Value) (rows : List (List Value)) (key : List UInt8) (L : Nat → Bool) (x : World) : Prop :=
  (L 14 = false → CB x s 46 (seC d m vl)) ∧ (L 11 = false → RowX x B 50 18 vl rows) ∧ CB x gK 23 (bcells key) ∧ Wrs w x s vl.ownBlock
theorem SedG.no {ops : Array Oper} {L : Nat → Bool} {i j : Nat} (l0 : L i = false) (up : ∀ j e, L j = true → Inv.afterB ops j e = true → L e = true) (ha : Inv.afterB ops j i = true) : L j = false := by
  cases h : L j with
  | false => rfl
  | true => have := up j i h ha; rw [l0] at this; cases this
theorem moreT_ne {L : Nat → Bool} {i j : Nat} (h : i ≠ j) : Inv.moreT i L j = L j := by unfold Inv.moreT; rw [decide_eq_false h, Bool.false_or]
section
variable {w x y : World} {s B gK d m i : Nat} {vl : Value} {rows : List (List Value)} {key : List UInt8} {L : Nat → Bool}
theorem SedG.more (h11 : i ≠ 11) (h14 : i ≠ 14) (h : SedG w s B gK d m vl rows key L x) : SedG w s B gK d m vl rows key (Inv.moreT i L) x := by
  unfold SedG at *
  rw [moreT_ne h11, moreT_ne h14]
  exact h
theorem SedG.made (h11 : i ≠ 11) (h14 : i ≠ 14) (hg : x.grownBy y none) (h : SedG w s B gK d m vl rows key L x) : SedG w s B gK d m vl rows key (Inv.moreT i L) y :=
  SedG.more h11 h14 ⟨fun e => (h.1 e).kept hg, fun e => (h.2.1 e).none hg, h.2.2.1.kept hg, h.2.2.2.next hg (fun z e => by cases e)⟩
theorem SedG.app (hs : ∀ z, vl.ownBlock = some z → z ≠ s) (hk : ∀ z, vl.ownBlock = some z → z ≠ gK) (hg : x.grownBy y vl.ownBlock) (h : SedG w s B gK d m vl rows key L x) : SedG w s B gK d m vl rows key (Inv.moreT 11 L) y := by
  refine ⟨fun e => ?_, fun e => ?_, CB.row_ h.2.2.1 hg hk, h.2.2.2.next hg (fun z e => .inr (.inl e.symm))⟩
  · rw [moreT_ne (by omega)] at e
    exact CB.row_ (h.1 e) hg hs
  · simp [Inv.moreT] at e
theorem SedG.done (l11 : L 11 = true) (hg : x.grownBy y (some s)) (hks : gK ≠ s) (h : SedG w s B gK d m vl rows key L x) : SedG w s B gK d m vl rows key (Inv.moreT 14 L) y := by
  refine ⟨fun e => ?_, fun e => ?_, h.2.2.1.grown hg hks, h.2.2.2.next hg (fun z e => .inl (by injection e with e; exact e.symm))⟩
  · simp [Inv.moreT] at e
  · rw [moreT_ne (by omega), l11] at e
    cases e
end

theorem wp_buildVs {P : Program} {o : Oper} {a : Act} {w : World} {K : Act → World → Prop} {Q : Exit → Act → World → Prop} {t : TypeId} {parts : Array (Nat × Operand)} {ps : Array (Nat × Value)} {v : Value} (ho : o.op = .build t parts) (hp : parts.map (fun z => (z.1, a.eval z.2)) = ps) (hr : (Instr.build t ps).run P w = .ok v w) (hk : K (a.put o.dst v) w) : o.wp P a w K Q := by
  unfold Oper.wp execOp
  have hp' : parts.map (fun (i, x) => (i, a.eval x)) = ps := hp
  simp only [ho, hp', Sem.run_bind, Sem.run_pure, Result.andThen_ok, hr]
  exact hk
theorem sixteen_ {α : Type} {l : List α} (h : l.length = 16) : ∃ a b c d e f g h' i j k m n o p q, l = [a, b, c, d, e, f, g, h', i, j, k, m, n, o, p, q] :=
  match l, h with
  | [a, b, c, d, e, f, g, h', i, j, k, m, n, o, p, q], _ => ⟨a, b, c, d, e, f, g, h', i, j, k, m, n, o, p, q, rfl⟩
theorem run_buildTe (te : Te) (A : Option Addr) (c n : Nat) (hn : te.2.2.length = n) (hk : te.1.length = 16) (w : World) : (Instr.build 50 #[(0, .agg (bcells te.1).toArray), (1, .int .i64 te.2.1), (2, .slice A n c)]).run Tryz.prog w = .ok (.agg (teC te A c).toArray) w := by
  obtain ⟨k, u, p⟩ := te
  subst hn
  simp only at hk ⊢
  obtain ⟨a0, a1, a2, a3, a4, a5, a6, a7, a8, a9, a10, a11, a12, a13, a14, a15, rfl⟩ := sixteen_ hk
  kernel_rfl
theorem teC_len (te : Te) (A : Option Addr) (c : Nat) (hk : te.1.length = 16) : (teC te A c).length = 18 := by unfold teC; rw [List.length_append, bcells_length, hk]; rfl
theorem teC_one (te : Te) (A : Option Addr) (c : Nat) : ∀ u ∈ teC te A c, u.oneCell' = true := by
  intro u hu
  simp only [teC, List.mem_append, List.mem_cons, List.not_mem_nil, or_false] at hu
  rcases hu with h | rfl | rfl
  · exact bcells_one _ u h
  · rfl
  · rfl
set_option maxRecDepth 100000 in
theorem zeroTe_run (w : World) : (zeroValue 50).run Tryz.prog w = .ok (.agg (teC (zeros 16, 0, []) none 0).toArray) w := by kernel_rfl
set_option maxRecDepth 100000 in
theorem aggTe : AggT Tryz.prog 50 18 := ⟨fun _ => by kernel_rfl, by kernel_rfl⟩
theorem sizeTs : (Tryz.prog.info? 35).map (·.size) = some 1 := by kernel_rfl
theorem szU64 : (Tryz.prog.info? 44).map (·.size) = some 1 := by kernel_rfl
set_option maxRecDepth 100000 in
theorem rowTe : RowT Tryz.prog 35 50 18 := ⟨Tryz.underlying35, by
  refine ⟨_, _, rfl, rfl, rfl, ?_, rfl⟩
  decide, by omega⟩

theorem RB.lt_of {w : World} {A : Option Addr} {l : List UInt8} {c : Nat} (h : RB w w.heap.size A l c) : ∀ a, A = some a → l = [] ∨ a.block < w.heap.size := by
  intro a ha
  rcases h.2.2 with ⟨h1, _⟩ | ⟨b, h1, h2⟩
  · rw [ha] at h1; cases h1
  · rw [ha] at h1
    injection h1 with h1
    subst h1
    cases l with
    | nil => exact .inl rfl
    | cons u l =>
      right
      have := (h2 0 u rfl).1
      have hab : (a.add 0).block = a.block := by unfold Addr.add; split <;> rfl
      omega
theorem SS.grow {w x : World} {B s m n : Nat} {r : Option Nat} {T : List Te} {d : Nat} {te : Te} {v' : Value} {rows : List (List Value)} {A3 : Option Addr} {c3 : Nat} (hBs : B ≤ s) (hT : ∀ t ∈ T, t.1.length = 16) (hrl : rows.length = m) (hm : T.length = m)
    (hrt : ∀ (k : Nat) (t : Te), T[k]? = some t → ∃ (A : Option Addr) (c : Nat), rows[k]? = some (teC t A c) ∧ PB w s r A t.2.2 c) (_ : ∀ z, r = some z → z < w.heap.size) (hs : s < w.heap.size) (hw : Wrs w x s r) (hk : te.1.length = 16) (_ : te.2.2.length = n)
    (h1 : CB x s 46 (seC d (m + 1) v')) (h2 : RowX x B 50 18 v' (rows ++ [teC te A3 c3])) (h3 : OwnB x w.heap.size 5 (.slice A3 n c3) te.2.2) (h4 : v'.ownBlock = r ∨ ∃ g, v'.ownBlock = some g ∧ w.heap.size ≤ g) (h5 : ∀ z, (Value.slice A3 n c3).ownBlock = some z → v'.ownBlock ≠ some z) : SS x B s v'.ownBlock (T ++ [te]) d := by
  refine ⟨hBs, fun t ht => ?_, v', rows ++ [teC te A3 c3], rfl, ?_, h2, by rw [List.length_append, List.length_append, hrl, hm]; rfl, fun k t ht => ?_⟩
  · rcases List.mem_append.1 ht with h | h
    · exact hT t h
    · rw [List.mem_singleton.1 h]; exact hk
  · rw [List.length_append, hm]
    exact h1
  · by_cases hkm : k < m
    · rw [List.getElem?_append_left (by omega)] at ht
      obtain ⟨A, c, a1, a2, a3⟩ := hrt k t ht
      refine ⟨A, c, by rw [List.getElem?_append_left (by omega)]; exact a1, (a2.wrs hw (fun a ha => (a3 a ha).imp id fun q => ⟨q.1, q.2.1⟩)).more hw.size, fun a ha => ?_⟩
      rcases a2.lt_of a ha with e | e
      · exact .inl e
      · refine (a3 a ha).imp id fun q => ⟨q.1, ?_, q.2.2.same fun hl => hw.block _ hl q.1 (fun e => q.2.1 e.symm)⟩
        rcases h4 with h | ⟨g, h, hg⟩
        · rw [h]; exact q.2.1
        · rw [h]; intro e2; injection e2 with e2; omega
    · have hke : k = m := by
        have := (List.getElem?_eq_some_iff.1 ht).1
        rw [List.length_append] at this
        simp only [List.length_cons, List.length_nil] at this
        omega
      subst hke
      rw [List.getElem?_append_right (by omega), hm, Nat.sub_self] at ht
      injection ht with ht
      subst ht
      refine ⟨A3, c3, by rw [List.getElem?_append_right (by omega), hrl, Nat.sub_self]; rfl, ?_, fun a ha => ?_⟩
      · obtain ⟨A', c', hv, hrb, -⟩ := OwnB.shape h3
        injection hv with e1 e2 e3
        subst e1 e3
        exact hrb
      · right
        have hz : (Value.slice A3 n c3).ownBlock = some a.block := by rw [ha]; rfl
        have h6 := OwnB.lt h3 _ hz
        exact ⟨by omega, h5 _ hz, U8.of_own h3 a ha⟩
set_option maxRecDepth 10000 in
set_option maxHeartbeats 4000000 in
theorem seal_any (w : World) (B s : Nat) (r : Option Nat) (T : List Te) (d : Nat) (h : SS w B s r T d) (te : Te) (A : Option Addr) (n cap : Nat) (hk : te.1.length = 16) (hn : te.2.2.length = n) (hp : RB w w.heap.size A te.2.2 cap) (hpa : ∀ a, A = some a → te.2.2 = [] ∨ (a.block ≠ s ∧ r ≠ some a.block)) (hl : n ≤ 2000) (hT : T.length < 1000000) :
    Calls Tryz.prog 14 #[.pointer (some ⟨s, 0, none⟩), .agg (bcells te.1).toArray, .int .i64 te.2.1, .slice A n cap] w fun e w' => ∃ v r', e = .returned (.tuple #[v, .int .i64 0]) ∧ OwnB w' w.heap.size 5 v (boxN T.length) ∧ SS w' B s r' (T ++ [te]) d ∧ Wrs w w' s r ∧ (r' = r ∨ ∃ g, r' = some g ∧ w.heap.size ≤ g) := by
  have HK16 := Lib.hid hk
  have HN := Lib.hid hn
  have HL := Lib.hid hl
  have HT := Lib.hid hT
  have RP := Lib.hid hp
  have RPA := Lib.hid hpa
  have HSS := Lib.hid h
  obtain ⟨h1, h2, v, rows, h0, hcb, hrow, hrl, hrt⟩ := h
  have HRL := Lib.hid (show rows.length = T.length from hrl)
  have H1 := Lib.hid h1
  have H2 := Lib.hid h2
  have HRT := Lib.hid hrt
  obtain ⟨A2, cap2, rfl, -, -⟩ := hrow.shape
  obtain ⟨n2, hn2⟩ : ∃ n, rows.length = n := ⟨_, rfl⟩
  rw [hn2] at h0 hcb hrow
  subst h0
  have HB := Lib.hid (show B ≤ w.heap.size by have := hcb.lt; omega)
  have HSL := Lib.hid (show s < w.heap.size from hcb.lt)
  have HRH := Lib.hid (show ∀ z, (Value.slice A2 n2 cap2).ownBlock = some z → z < w.heap.size from fun z hz => (hrow.lt z hz).2)
  have HRS := Lib.hid (show ∀ z, (Value.slice A2 n2 cap2).ownBlock = some z → z ≠ s from fun z hz e => by subst e; exact hrow.ne_cells hcb (by decide) hz)
  obtain ⟨m, hm⟩ : ∃ m, T.length = m := ⟨_, rfl⟩
  have HM := Lib.hid hm
  rw [hm] at hcb hT HRL HT ⊢
  have hmi : (m : Int) < 1000000 := by omega
  have hni : ¬ (2000 : Int) < (n : Int) := by omega
  have B0 := Lib.hid (hcb.alloc (.cells (bcells te.1).toArray 23))
  have q0 := (hcb.alloc (.cells (bcells te.1).toArray 23)).at_ (seC_sy d m _)
  have q18 := (hcb.alloc (.cells (bcells te.1).toArray 23)).at_ (seC_se d m _)
  have K0 := Lib.hid (CB.new w 23 (bcells te.1))
  have R0 := Lib.hid (hrow.none (grown_alloc w (.cells (bcells te.1).toArray 23) none))
  have hw1 : IntKind.u64.wrap ((m : Int) + 1) = (m : Int) + 1 := by rw [show IntKind.u64.wrap ((m : Int) + 1) = ((m : Int) + 1) % 18446744073709551616 by simp [IntKind.wrap, IntKind.bits, IntKind.signed]]; omega
  clear h1 h2 hcb hrow hrl hrt hk hn hp hpa hl hm
  obtain ⟨gK, hgK⟩ : ∃ g, w.heap.size = g := ⟨_, rfl⟩
  go_enter Tryz.func14, Tryz.ntmps14
  go_wp2_with (first
    | (refine wpList_setC (off := 18) szU64 rfl (.tmp 24) (.tmp 22) rfl .u64 ((m : Int) + 1) B0.out (by rw [seC_len]; omega) (by first | rfl | go_simp) (by first | rfl | go_simp) ?_; intro w2 h2 g2; have h2 : CB w2 s 46 (seC d (m + 1) (.slice A2 n2 cap2)) := h2; have q2 := h2.at_ (seC_sy d (m + 1) _); have B2 := Lib.hid h2; have G2 := Lib.hid g2; clear h2 g2 q0 q18))
  have HRK := Lib.hid (show ∀ z, (Value.slice A2 n2 cap2).ownBlock = some z → z ≠ gK from fun z hz e => by have := HRH.out z hz; omega)
  have HKS := Lib.hid (show gK ≠ s by have := HSL.out; omega)
  rw [hgK] at K0
  have B6 := Lib.hid (show CB w2.drew s 46 (seC d (m + 1) (.slice A2 n2 cap2)) from B2.out)
  have R6 := Lib.hid (show RowX w2.drew B 50 18 (.slice A2 n2 cap2) rows from R0.out.row (grown_drew G2.out) (fun e => HRS.out _ e rfl))
  have K6 := Lib.hid (show CB w2.drew gK 23 (bcells te.1) from K0.out.grown (grown_drew G2.out) HKS.out)
  have W6 := Lib.hid (show Wrs w w2.drew s (Value.slice A2 n2 cap2).ownBlock from (((Wrs.refl w s _).next (grown_alloc w (.cells (bcells te.1).toArray 23) none) (fun z e => by cases e)).next G2.out (fun z e => .inl (by injection e with e; exact e.symm))).drew)
  clear hgK B0 R0 K0 B2 q2
  refine region_byT (n := 15) (ds := [some 29, some 30, some 31, some 32, some 33, some 34, some 35, some 36, some 37, some 38, some 39, some 40, some 41, some 42, none]) (SedT s (.slice A2 n2 cap2)) (SedG w s B gK d (m + 1) (.slice A2 n2 cap2) rows te.1) (SedF s B w.heap.size d (m + 1) (.slice A2 n2 cap2) rows te A n cap) (by kernel_rfl) (by kernel_rfl) rfl (by kernel_rfl) (fun i j v x y hji haf hT hF => SedF.step HSL.out HRH.out i j v x y hji hT hF (fun e1 e2 => by subst e1 e2; exact absurd haf (by rw [show Inv.afterB _ 14 11 = true by kernel_rfl]; simp))) ⟨(fun _ => B6.out), (fun _ => R6.out), K6.out, W6.out⟩ ⟨⟨⟨⟨⟨⟨⟨⟨⟨⟨⟨⟨⟨⟨⟨trivial, ?_⟩, ?_⟩, ?_⟩, ?_⟩, ?_⟩, ?_⟩, ?_⟩, ?_⟩, ?_⟩, ?_⟩, ?_⟩, ?_⟩, ?_⟩, ?_⟩, ?_⟩ ?_
  · refine Inv.dutyT_plain rfl rfl (fun L vs a x l0 hG dep up val ev out K hK => ?_)
    have e0 : a.eval (.tmp 0) = .pointer (some ⟨s, 0, none⟩) := (out 0 (Inv.ne_of_outB (by kernel_rfl))).trans rfl
    refine Inv.wp_value (v := .pointer (some ⟨s, 0, none⟩)) ?_ (hK.out _ _ rfl (SedG.more (i := 0) (by omega) (by omega) hG) rfl)
    clear hG hK K dep up val ev out l0
    generalize a.eval = ρ at *
    (simp [execOp, go_sem, *]; done)
  · refine Inv.dutyT_plain rfl rfl (fun L vs a x l0 hG dep up val ev out K hK => ?_)
    have e0 : a.eval (.tmp 0) = .pointer (some ⟨s, 0, none⟩) := (out 0 (Inv.ne_of_outB (by kernel_rfl))).trans rfl
    refine Inv.wp_value (v := .pointer (some ⟨s, 0, none⟩)) ?_ (hK.out _ _ rfl (SedG.more (i := 1) (by omega) (by omega) hG) rfl)
    clear hG hK K dep up val ev out l0
    generalize a.eval = ρ at *
    (simp [execOp, go_sem, *]; done)
  · refine Inv.dutyT_plain rfl rfl (fun L vs a x l0 hG dep up val ev out K hK => ?_)
    have L30 := dep 1 (by kernel_rfl)
    have e30 : a.eval (.tmp 30) = .pointer (some ⟨s, 0, none⟩) := (ev 1 30 L30 (by kernel_rfl)).trans (val 1 L30)
    refine Inv.wp_value (v := .pointer (some ⟨s, 0, none⟩)) ?_ (hK.out _ _ rfl (SedG.more (i := 2) (by omega) (by omega) hG) rfl)
    clear hG hK K dep up val ev out l0
    generalize a.eval = ρ at *
    (simp [execOp, go_sem, *]; done)
  · refine Inv.dutyT_plain rfl rfl (fun L vs a x l0 hG dep up val ev out K hK => ?_)
    have L31 := dep 2 (by kernel_rfl)
    have e31 : a.eval (.tmp 31) = .pointer (some ⟨s, 0, none⟩) := (ev 2 31 L31 (by kernel_rfl)).trans (val 2 L31)
    refine Inv.wp_value (v := .pointer (some ⟨s, 19, none⟩)) ?_ (hK.out _ _ rfl (SedG.more (i := 3) (by omega) (by omega) hG) rfl)
    clear hG hK K dep up val ev out l0
    generalize a.eval = ρ at *
    (simp [execOp, go_sem, *]; done)
  · refine Inv.dutyT_plain rfl rfl (fun L vs a x l0 hG dep up val ev out K hK => ?_)
    have L32 := dep 3 (by kernel_rfl)
    have e32 : a.eval (.tmp 32) = .pointer (some ⟨s, 19, none⟩) := (ev 3 32 L32 (by kernel_rfl)).trans (val 3 L32)
    have q0 : x.cell? ⟨s, 19, none⟩ = some (.slice A2 n2 cap2) := (hG.1 (SedG.no l0 up (show Inv.afterB _ 14 4 = true by kernel_rfl))).at_ (seC_te _ _ _)
    refine Inv.wp_value (v := .slice A2 n2 cap2) ?_ (hK.out _ _ rfl (SedG.more (i := 4) (by omega) (by omega) hG) rfl)
    clear hG hK K dep up val ev out l0
    generalize a.eval = ρ at *
    (simp [execOp, go_sem, *]; done)
  · refine Inv.dutyT_plain rfl rfl (fun L vs a x l0 hG dep up val ev out K hK => ?_)
    have e5 : a.eval (.tmp 5) = .pointer (some ⟨gK, 0, none⟩) := (out 5 (Inv.ne_of_outB (by kernel_rfl))).trans rfl
    exact wp_loadC aggKy (.tmp 5) rfl hG.2.2.1 (take_all (by rw [bcells_length]; exact HK16.out)) (by rw [bcells_length, HK16.out]; omega) e5 (hK.out _ _ rfl (SedG.more (i := 5) (by omega) (by omega) hG) rfl)
  · refine Inv.dutyT_plain rfl rfl (fun L vs a x l0 hG dep up val ev out K hK => ?_)
    have e2 : a.eval (.tmp 2) = .int .i64 te.2.1 := (out 2 (Inv.ne_of_outB (by kernel_rfl))).trans rfl
    refine Inv.wp_value (v := .int .i64 te.2.1) ?_ (hK.out _ _ rfl (SedG.more (i := 6) (by omega) (by omega) hG) rfl)
    clear hG hK K dep up val ev out l0
    generalize a.eval = ρ at *
    (simp [execOp, go_sem, *]; done)
  · refine Inv.dutyT_plain rfl rfl (fun L vs a x l0 hG dep up val ev out K hK => ?_)
    have e3 : a.eval (.tmp 3) = .slice A n cap := (out 3 (Inv.ne_of_outB (by kernel_rfl))).trans rfl
    refine Inv.wp_value (v := .slice A n cap) ?_ (hK.out _ _ rfl (SedG.more (i := 7) (by omega) (by omega) hG) rfl)
    clear hG hK K dep up val ev out l0
    generalize a.eval = ρ at *
    (simp [execOp, go_sem, *]; done)
  · refine Inv.dutyT_plain rfl rfl (fun L vs a x l0 hG dep up val ev out K hK => ?_)
    have ef : ∀ f, a.eval (.func f) = .func (.func f) #[] #[] := fun _ => rfl
    have L36 := dep 7 (by kernel_rfl)
    have e36 : a.eval (.tmp 36) = .slice A n cap := (ev 7 36 L36 (by kernel_rfl)).trans (val 7 L36)
    refine Inv.wp_call (by clear hG hK K dep up val ev out l0; generalize a.eval = ρ at *; (simp [execOp, go_sem, *]; done)) ((qclone_any A te.2.2 cap n x HN.out ((RP.out.wrs hG.2.2.2 RPA.out).more hG.2.2.2.size) (by have := HL.out; omega)).mono ?_)
    rintro e w' ⟨A', c', rfl, o, b⟩
    exact ⟨_, rfl, hK.out _ _ (none_of_below b (Nat.le_refl _)) (SedG.made (i := 8) (by omega) (by omega) (none_of_below b (Nat.le_refl _)) hG) ⟨A', c', rfl, o.base_ hG.2.2.2.size⟩⟩
  · refine Inv.dutyT_plain rfl rfl (fun L vs a x l0 hG dep up val ev out K hK => ?_)
    have L34 := dep 5 (by kernel_rfl)
    have e34 : a.eval (.tmp 34) = .agg (bcells te.1).toArray := (ev 5 34 L34 (by kernel_rfl)).trans (val 5 L34)
    have L35 := dep 6 (by kernel_rfl)
    have e35 : a.eval (.tmp 35) = .int .i64 te.2.1 := (ev 6 35 L35 (by kernel_rfl)).trans (val 6 L35)
    have L37 := dep 8 (by kernel_rfl)
    have e37 := ev 8 37 L37 (by kernel_rfl)
    have f37 := val 8 L37
    obtain ⟨A3, c3, hv3, o3⟩ := f37
    exact wp_buildVs rfl (by simp [e34, e35, e37, hv3]) (run_buildTe te A3 c3 n HN.out HK16.out x) (hK.out _ _ rfl (SedG.more (i := 9) (by omega) (by omega) hG) ⟨A3, c3, rfl, o3⟩)
  · refine Inv.dutyT_plain rfl rfl (fun L vs a x l0 hG dep up val ev out K hK => ?_)
    have L38 := dep 9 (by kernel_rfl)
    have e38 := ev 9 38 L38 (by kernel_rfl)
    have f38 := val 9 L38
    obtain ⟨A3, c3, hv3, o3⟩ := f38
    exact wp_lit1 Tryz.underlying35 aggTe.hi zeroTe_run (teC_len te A3 c3 HK16.out) (by omega) (by omega) (.tmp 38) rfl (e38.trans hv3) (hK.out _ _ (grown_alloc x _ none) (SedG.made (i := 10) (by omega) (by omega) (grown_alloc x _ none) hG) ⟨x.heap.size, A3, c3, rfl, CB.new x _ _, hG.2.2.2.size, o3.alloc _⟩)
  · refine Inv.dutyT_plain rfl rfl (fun L vs a x l0 hG dep up val ev out K hK => ?_)
    have L33 := dep 4 (by kernel_rfl)
    have e33 : a.eval (.tmp 33) = .slice A2 n2 cap2 := (ev 4 33 L33 (by kernel_rfl)).trans (val 4 L33)
    have L39 := dep 10 (by kernel_rfl)
    have e39 := ev 10 39 L39 (by kernel_rfl)
    have f39 := val 10 L39
    obtain ⟨g6, A3, c3, hv6, hc6, hg6, o3⟩ := f39
    have hrow := hG.2.1 l0
    refine wp_appX rowTe (.tmp 33) (.tmp 39) rfl (b := g6) (off := 0) (c := 1) hrow (fun j v hj => by have := hc6.at_ hj; rwa [Nat.zero_add]) (teC_len te A3 c3 HK16.out) (teC_one te A3 c3) e33 (e39.trans hv6) (by have := HT.out; have := HRL.out; omega) (Nat.le_trans HB.out hG.2.2.2.size) (fun v' w' hrow' hgr hat => ?_)
    have hsz := hG.2.2.2.size
    refine hK.out _ _ hgr (SedG.app HRS.out HRK.out hgr hG) ⟨A3, c3, hrow', OwnB.kept_ o3 hgr (fun z hz => HRH.out z hz), ?_, ?_, ?_⟩
    · rcases hat with h | h
      · rw [h]; exact fun e => HRS.out _ e rfl
      · rw [h]; intro e; injection e with e; have := HSL.out; omega
    · rcases hat with h | h
      · exact .inl h
      · exact .inr ⟨_, h, hsz⟩
    · intro z hz e
      have h3 := OwnB.lt o3 z hz
      rcases hat with h | h
      · rw [h] at e; have := HRH.out z e; omega
      · rw [h] at e; injection e with e; omega
  · refine Inv.dutyT_plain rfl rfl (fun L vs a x l0 hG dep up val ev out K hK => ?_)
    have L29 := dep 0 (by kernel_rfl)
    have e29 : a.eval (.tmp 29) = .pointer (some ⟨s, 0, none⟩) := (ev 0 29 L29 (by kernel_rfl)).trans (val 0 L29)
    refine Inv.wp_value (v := .pointer (some ⟨s, 0, none⟩)) ?_ (hK.out _ _ rfl (SedG.more (i := 12) (by omega) (by omega) hG) rfl)
    clear hG hK K dep up val ev out l0
    generalize a.eval = ρ at *
    (simp [execOp, go_sem, *]; done)
  · refine Inv.dutyT_plain rfl rfl (fun L vs a x l0 hG dep up val ev out K hK => ?_)
    have L41 := dep 12 (by kernel_rfl)
    have e41 : a.eval (.tmp 41) = .pointer (some ⟨s, 0, none⟩) := (ev 12 41 L41 (by kernel_rfl)).trans (val 12 L41)
    refine Inv.wp_value (v := .pointer (some ⟨s, 19, none⟩)) ?_ (hK.out _ _ rfl (SedG.more (i := 13) (by omega) (by omega) hG) rfl)
    clear hG hK K dep up val ev out l0
    generalize a.eval = ρ at *
    (simp [execOp, go_sem, *]; done)
  · refine Inv.dutyT_plain rfl rfl (fun L vs a x l0 hG dep up val ev out K hK => ?_)
    have L40 := dep 11 (by kernel_rfl)
    have e40 := ev 11 40 L40 (by kernel_rfl)
    have f40 := val 11 L40
    have L42 := dep 13 (by kernel_rfl)
    have e42 : a.eval (.tmp 42) = .pointer (some ⟨s, 19, none⟩) := (ev 13 42 L42 (by kernel_rfl)).trans (val 13 L42)
    obtain ⟨A3, c3, hrow, o3, hne, hat, hap⟩ := f40
    obtain ⟨A9, c9, hv9, _, _⟩ := hrow.shape
    exact wp_storeC (d := none) (off := 19) (p := [vs 11]) sizeTs rfl (.tmp 42) (.tmp 40) rfl (vs 11) (by rw [hv9]; rfl) (fun z hz => by rw [List.mem_singleton.1 hz, hv9]; rfl) (hG.1 l0) rfl (by simp [seC_len]) e42 e40 (fun w' h2 g2 => hK.out _ _ g2 (SedG.done L40 g2 HKS.out hG) ⟨vs 11, A3, c3, h2, hrow.row g2 hne, OwnB.kept_ o3 g2 (fun z hz => by injection hz with hz; have := HSL.out; omega), hat, hap⟩)
  intro vs L w4 _ hG hv
  obtain ⟨v3, A3, c3, h1, h2, h3, h4, h5⟩ := hv 14 (by omega)
  have HW := Lib.hid hG.2.2.2
  have C1 := Lib.hid h1
  have C2 := Lib.hid h2
  have C3 := Lib.hid h3
  have C4 := Lib.hid h4
  have C5 := Lib.hid h5
  clear hG hv h1 h2 h3 h4 h5
  simp only [Inv.putAll, Act.put, List.setIfInBounds_toArray, List.set_cons_zero, List.set_cons_succ, Nat.zero_add, Nat.reduceAdd]
  go_wp2_with (go_at_call 28; refine (symbolBox_any m _ (by have := HT.out; omega)).mono ?_; rintro e w5 ⟨v5, rfl, o5, g5⟩; have O5 := Lib.hid (o5.base_ HW.out.size); have G5 := Lib.hid g5; clear o5 g5)
  go_ret2
  exact ⟨v5, v3.ownBlock, rfl, O5.out, (SS.grow H1.out H2.out HRL.out HM.out HRT.out HRH.out HSL.out HW.out HK16.out HN.out C1.out C2.out C3.out C4.out C5.out).none G5.out, HW.out.next G5.out (fun z e => by cases e), C4.out⟩
end Go.Proofs.YthgejidimnbplaaGreatDoor
