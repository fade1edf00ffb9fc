/- Blocks of memory known by their cells, whatever these are: read, written piece by piece, copied to. Plain lemmas. -/
import Derived.Test.YtlkchajkhplapaaGreatDoorBlw
import Derived.Laws.CopyOwn
import Derived.StillTactics
import Derived.StillTailTactics
import Derived.Deep.QuietTactic
import Derived.BigQuiet
import Derived.Deep.RegionHeld
import Derived.Test.YtlkchajkhplapaaGreatDoorShf
import Derived.Deep.Slices
import Derived.Deep.Fields
import Derived.ProofKit
namespace Go.Proofs.YtlkchajkhplapaaGreatDoor
open Go.RowKit

/-- Block g, of type t, holds these cells and nothing else. -/
def CB (w : World) (g : Nat) (t : TypeId) (cs : List Value) : Prop := w.heap[g]? = some (.cells cs.toArray t (0, 0))
/-- p laid over cs from off on. -/
def over (cs : List Value) (off : Nat) (p : List Value) : List Value := cs.take off ++ p ++ cs.drop (off + p.length)
theorem over_length (cs : List Value) (off : Nat) (p : List Value) (h : off + p.length ≤ cs.length) : (over cs off p).length = cs.length := by
  rw [over, List.length_append, List.length_append, List.length_take, List.length_drop]; omega
theorem over_one (cs : List Value) (off : Nat) (v : Value) (h : off < cs.length) : over cs off [v] = cs.set off v := by
  rw [over, List.set_eq_take_append_cons_drop, if_pos h, List.append_assoc]
  rfl

section
variable {w w' : World} {g : Nat} {t : TypeId} {cs : List Value}
theorem CB.lt (h : CB w g t cs) : g < w.heap.size := (Array.getElem?_eq_some_iff.1 h).1
theorem CB.new (w : World) (t : TypeId) (cs : List Value) : CB (w.alloc (.cells cs.toArray t)) w.heap.size t cs := heap_alloc_new w _
theorem CB.below {B : Nat} (h : CB w g t cs) (hb : Below B w w') (hg : g < B) : CB w' g t cs := (hb.block g hg).trans h
theorem CB.alloc (h : CB w g t cs) (o : Obj) : CB (w.alloc o) g t cs := (Below.heap_alloc w o g h.lt).trans h
theorem CB.drew (h : CB w g t cs) : CB w.drew g t cs := h
theorem CB.far (h : CB w g t cs) {p : Addr} (hp : g ≠ p.block) (u : Value) : CB (w.setCell p u) g t cs := (Below.heap_setCell w p u g hp).trans h
theorem CB.grown {g' : Nat} (h : CB w g t cs) (hg : w.grownBy w' (some g')) (hne : g ≠ g') : CB w' g t cs := (hg.block g h.lt (fun e => hne (by injection e))).trans h
theorem CB.kept (h : CB w g t cs) (hg : w.grownBy w' none) : CB w' g t cs := (hg.block g h.lt (fun e => by cases e)).trans h
theorem CB.at_ (h : CB w g t cs) {i : Nat} {v : Value} (hv : cs[i]? = some v) : w.cell? ⟨g, i, none⟩ = some v := by
  rw [cell_of_row w g i _ t (0, 0) h, List.getElem?_toArray, hv]
theorem CB.free (h : CB w g t cs) (i : Nat) : w.frozen? ⟨g, i, none⟩ = false := frozen_of_row w g i _ t h
theorem CB.set_ (h : CB w g t cs) (i : Nat) (v : Value) : CB (w.setCell ⟨g, i, none⟩ v) g t (cs.set i v) := by
  unfold CB
  rw [heap_setCell_same w g i _ t _ h]
  simp
theorem CB.of_BB {l : List UInt8} (h : BB w g t l) : CB w g t (bcells l) := h
theorem CB.to_BB {l : List UInt8} (h : CB w g t (bcells l)) : BB w g t l := h
theorem CB.setRow (h : CB w g t cs) (cs' : List Value) : CB (w.setRow g cs'.toArray) g t cs' := setRow_heap w g _ _ t _ h
end

theorem grown_trans' {a b c : World} {r : Option Nat} (h : a.grownBy b r) (k : b.grownBy c r) : a.grownBy c r :=
  ⟨k.os.trans h.os, k.tape.trans h.tape, k.output.trans h.output, Nat.le_trans h.size k.size, fun i hi hne => (k.block i (Nat.lt_of_lt_of_le hi h.size) hne).trans (h.block i hi hne)⟩
theorem grown_some {a b : World} (h : a.grownBy b none) (g : Nat) : a.grownBy b (some g) :=
  ⟨h.os, h.tape, h.output, h.size, fun i hi _ => h.block i hi (fun e => by cases e)⟩
theorem grownC_of_below {B g : Nat} {a b : World} (h : Below B a b) (hB : a.heap.size ≤ B) : a.grownBy b (some g) :=
  ⟨h.os, h.tape, h.output, h.size, fun i hi _ => h.block i (Nat.lt_of_lt_of_le hi hB)⟩
theorem none_of_below {B : Nat} {a b : World} (h : Below B a b) (hB : a.heap.size ≤ B) : a.grownBy b none :=
  ⟨h.os, h.tape, h.output, h.size, fun i hi _ => h.block i (Nat.lt_of_lt_of_le hi hB)⟩
theorem below_of_none {a b : World} (h : a.grownBy b none) : Below a.heap.size a b :=
  ⟨h.os, h.tape, h.output, h.size, fun i hi => h.block i hi (fun e => by cases e)⟩
/-- What was made on the way may be written. -/
theorem none_new {a b c : World} {g : Nat} (h : a.grownBy b none) (k : b.grownBy c (some g)) (hg : a.heap.size ≤ g) : a.grownBy c none := grown_new h k hg
theorem grown_alloc (w : World) (o : Obj) (r : Option Nat) : w.grownBy (w.alloc o) r :=
  ⟨rfl, rfl, rfl, by rw [World.size_alloc]; omega, fun i hi _ => Below.heap_alloc w o i hi⟩
theorem grownC_set (w : World) (g i : Nat) (v : Value) : w.grownBy (w.setCell ⟨g, i, none⟩ v) (some g) :=
  have h := (Below.refl w.heap.size w)
  ⟨rfl, rfl, rfl, by rw [World.size_setCell]; exact Nat.le_refl _, fun k _ hne => Below.heap_setCell w ⟨g, i, none⟩ v k (fun e => hne (by rw [e]))⟩

/-- What the program says of a type of arrays or structs of n cells. -/
structure AggT (P : Program) (t : TypeId) (n : Nat) : Prop where
  ha : ∀ w, (isAgg t).run P w = .ok true w
  hi : (P.info? t).map (·.size) = some n

section
variable {P : Program} {w : World} {ops : Array Oper} {rest : List Oper} {o : Oper} {a : Act} {Q : Exit → Act → World → Prop} {ty t : TypeId} {n g off : Nat} {cs p : List Value}

theorem run_loadC (hT : AggT P ty n) (h : CB w g t cs) (hp : (cs.drop off).take n = p) (hl : off + n ≤ cs.length) : (loadVar ty ⟨g, off, none⟩).run P w = .ok (.agg p.toArray) w := by
  have hlen : p.length = n := by rw [← hp, List.length_take, List.length_drop]; omega
  have hc : (loadCells ⟨g, off, none⟩ p.length).run P w = .ok p.toArray w :=
    run_loadCells_list (P := P) w ⟨g, off, none⟩ p (fun j v hv => by
      have hj : j < n := by rw [← hlen]; exact (List.getElem?_eq_some_iff.1 hv).1
      rw [← hp, List.getElem?_take_of_lt hj, List.getElem?_drop] at hv
      rw [Addr.add_lit]
      exact h.at_ hv)
  rw [hlen] at hc
  have hi := hT.hi
  cases hq : P.info? ty with
  | none => simp [hq] at hi
  | some i =>
    have hs : i.size = n := by simpa [hq] using hi
    simp [loadVar, Sem.run_bind, hT.ha, sizeOf, typeInfo, hq, hs, hc]
theorem wpList_loadC (hT : AggT P ty n) (hgd : o.guard = none) (x : Operand) (ho : o.op = .load ty x) (h : CB w g t cs) (hp : (cs.drop off).take n = p) (hl : off + n ≤ cs.length) (hx : a.eval x = .pointer (some ⟨g, off, none⟩))
    (hk : wpList P ops Q rest (a.put o.dst (.agg p.toArray)) w) : wpList P ops Q (o :: rest) a w := by
  refine wpList_plain hgd fun K hK => ?_
  unfold Oper.wp execOp
  simp only [ho, hx, Instr.loadAt, Instr.sureAddr, Sem.run_bind, Sem.run_pure, Result.andThen_ok, run_loadC hT h hp hl]
  exact hK _ _ hk

theorem CB.over (h : CB w g t cs) (off : Nat) (p : List Value) : CB (w.setRow g (over cs off p).toArray) g t (over cs off p) := setRow_heap w g _ _ t _ h
theorem run_storeC (hi : (P.info? ty).map (·.size) = some n) (v : Value) (hv : v.cells = p.toArray) (h1 : ∀ u ∈ p, u.oneCell' = true) (h : CB w g t cs) (hp : p.length = n) (hl : off + n ≤ cs.length) :
    (storeVar ty ⟨g, off, none⟩ v).run P w = .ok () (w.setRow g (over cs off p).toArray) := by
  have hs := run_storeCells_at P g off t p 0 _ w h (by simp; omega) h1
  cases hq : P.info? ty with
  | none => simp [hq] at hi
  | some i =>
    have hsz : i.size = n := by simpa [hq] using hi
    have hne : p.length = i.size := by rw [hp, hsz]
    simp only [Nat.add_zero] at hs
    simp [storeVar, sizeOf, typeInfo, hq, hv, hne]
    rw [hs, Go.Proofs.YtlkchajkhplapaaGreatDoor.over, hne, List.append_assoc]
theorem wpList_storeC (hi : (P.info? ty).map (·.size) = some n) (hgd : o.guard = none) (x y : Operand) (ho : o.op = .store ty x y) (v : Value) (hv : v.cells = p.toArray) (h1 : ∀ u ∈ p, u.oneCell' = true) (h : CB w g t cs) (hp : p.length = n) (hl : off + n ≤ cs.length)
    (hx : a.eval x = .pointer (some ⟨g, off, none⟩)) (hy : a.eval y = v)
    (hk : ∀ w', CB w' g t (over cs off p) → w.grownBy w' (some g) → wpList P ops Q rest (a.put o.dst undef) w') : wpList P ops Q (o :: rest) a w := by
  refine wpList_plain hgd fun K hK => ?_
  unfold Oper.wp execOp
  simp only [ho, hx, hy, Instr.storeAt, Instr.sureAddr, Sem.run_bind, Sem.run_pure, Result.andThen_ok, run_storeC hi v hv h1 h hp hl]
  exact hK _ _ (hk _ (h.over off p) (grown_setRow _ _ _))
/-- One number stored. -/
theorem wpList_setC (hi : (P.info? ty).map (·.size) = some 1) (hgd : o.guard = none) (x y : Operand) (ho : o.op = .store ty x y) (k : IntKind) (z : Int) (h : CB w g t cs) (hl : off < cs.length)
    (hx : a.eval x = .pointer (some ⟨g, off, none⟩)) (hy : a.eval y = .int k z)
    (hk : ∀ w', CB w' g t (cs.set off (.int k z)) → w.grownBy w' (some g) → wpList P ops Q rest (a.put o.dst undef) w') : wpList P ops Q (o :: rest) a w :=
  wpList_storeC (p := [.int k z]) hi hgd x y ho _ rfl (fun u hu => by rw [List.mem_singleton.1 hu]; rfl) h rfl (by omega) hx hy (fun w' hc hg => hk w' (over_one cs off _ hl ▸ hc) hg)

/-- 'copy(d, s)' over bytes. -/
theorem wpList_copyC (hgd : o.guard = none) (d s : Operand) (dT sT : TypeId)
    (ho : o.op = .call { callee := .builtin .copy, args := #[d, s], argTypes := #[dT, sT] }) (elem : TypeId) (hu : P.underlying dT = some (.slice elem)) (hsz : (P.info? elem).map (·.size) = some 1)
    (dLen dCap : Nat) (ad : Addr) (sLen sCap : Nat) (hd : a.eval d = .slice (some ⟨g, off, none⟩) dLen dCap) (hs : a.eval s = .slice (some ad) sLen sCap)
    (h : CB w g t cs) (p : List Value) (hn : p.length = Nat.min sLen dLen)
    (hsrc : ∀ j v, p[j]? = some v → w.cell? (ad.add j) = some v) (hfit : off + p.length ≤ cs.length) (h1 : ∀ v ∈ p, v.oneCell' = true)
    (hk : ∀ w', CB w' g t (over cs off p) → w.grownBy w' (some g) → wpList P ops Q rest (a.put o.dst (goInt p.length)) w') : wpList P ops Q (o :: rest) a w :=
  wpList_copy_own hgd d s dT sT ho elem hu hsz g off dLen dCap ad sLen sCap hd hs _ t h p hn hsrc (by simpa using hfit) h1 (by
    have hov := hk _ (h.over off p) (grown_setRow _ _ _)
    rw [Go.Proofs.YtlkchajkhplapaaGreatDoor.over, List.append_assoc] at hov
    simpa using hov)
end
end Go.Proofs.YtlkchajkhplapaaGreatDoor
namespace Go.Proofs.YtlkchajkhplapaaGreatDoor
open Go.RowKit

def byteOk (c : Nat) : Bool := decide ((65 ≤ c ∧ c ≤ 90) ∨ (97 ≤ c ∧ c ≤ 122) ∨ (48 ≤ c ∧ c ≤ 57) ∨ c = 45 ∨ c = 46 ∨ c = 95)
def nameOk (l : List UInt8) : Bool := decide (1 ≤ l.length ∧ l.length ≤ 12) && !(l == [46]) && !(l == [46, 46]) && l.all (fun c => byteOk c.toNat)

set_option maxHeartbeats 4000000 in
theorem rightByte_any (w : World) (c : Nat) (hc : c < 256) :
    Calls Tryz.prog 111 #[.int .u8 c] w fun e w' => e = .returned (.bool (byteOk c)) ∧ w' = w := by
  obtain ⟨ok, hok⟩ : ∃ x, byteOk c = x := ⟨_, rfl⟩
  have OK := Lib.hid hok
  rw [hok]
  clear hok
  by_cases h1 : 65 ≤ c ∧ c ≤ 90
  · have a1 : (65 : Int) ≤ (c : Int) := by omega
    have a2 : (c : Int) ≤ 90 := by omega
    have hb : ok = true := by rw [← OK.out]; unfold byteOk; exact decide_eq_true (.inl h1)
    subst hb
    go_enter Tryz.func111, Tryz.ntmps111
    go_wp2
    go_ret
    exact ⟨rfl, rfl⟩
  by_cases h2 : 97 ≤ c ∧ c ≤ 122
  · have a1 : (65 : Int) ≤ (c : Int) := by omega
    have a2 : ¬ (c : Int) ≤ 90 := by omega
    have a3 : (97 : Int) ≤ (c : Int) := by omega
    have a4 : (c : Int) ≤ 122 := by omega
    have hb : ok = true := by rw [← OK.out]; unfold byteOk; exact decide_eq_true (.inr (.inl h2))
    subst hb
    go_enter Tryz.func111, Tryz.ntmps111
    go_wp2
    go_ret
    exact ⟨rfl, rfl⟩
  by_cases h3 : 48 ≤ c ∧ c ≤ 57
  · have a1 : ¬ (65 : Int) ≤ (c : Int) := by omega
    have a3 : ¬ (97 : Int) ≤ (c : Int) := by omega
    have a4 : (48 : Int) ≤ (c : Int) := by omega
    have a5 : (c : Int) ≤ 57 := by omega
    have hb : ok = true := by rw [← OK.out]; unfold byteOk; exact decide_eq_true (.inr (.inr (.inl h3)))
    subst hb
    go_enter Tryz.func111, Tryz.ntmps111
    go_wp2
    go_ret
    exact ⟨rfl, rfl⟩
  by_cases h4 : c = 45 ∨ c = 46 ∨ c = 95
  · have hb : ok = true := by rw [← OK.out]; unfold byteOk; exact decide_eq_true (.inr (.inr (.inr h4)))
    subst hb
    rcases h4 with rfl | rfl | rfl
    all_goals
      go_enter Tryz.func111, Tryz.ntmps111
      go_wp2
      go_ret
      exact ⟨rfl, rfl⟩
  · have hb : ok = false := by rw [← OK.out]; unfold byteOk; exact decide_eq_false (by omega)
    subst hb
    have b1 : ((c : Int) == 45) = false := beq_eq_false_iff_ne.2 (by omega)
    have b2 : ((c : Int) == 46) = false := beq_eq_false_iff_ne.2 (by omega)
    have b3 : ((c : Int) == 95) = false := beq_eq_false_iff_ne.2 (by omega)
    have c1 : ¬ (c : Int) = 45 := by omega
    have c2 : ¬ (c : Int) = 46 := by omega
    have c3 : ¬ (c : Int) = 95 := by omega
    by_cases k1 : 65 ≤ c
    · have a1 : (65 : Int) ≤ (c : Int) := by omega
      have a2 : ¬ (c : Int) ≤ 90 := by omega
      by_cases k2 : 97 ≤ c
      · have a3 : (97 : Int) ≤ (c : Int) := by omega
        have a4 : ¬ (c : Int) ≤ 122 := by omega
        have a5 : (48 : Int) ≤ (c : Int) := by omega
        have a6 : ¬ (c : Int) ≤ 57 := by omega
        go_enter Tryz.func111, Tryz.ntmps111
        go_wp2
        go_ret
        exact ⟨rfl, rfl⟩
      · have a3 : ¬ (97 : Int) ≤ (c : Int) := by omega
        have a5 : (48 : Int) ≤ (c : Int) := by omega
        have a6 : ¬ (c : Int) ≤ 57 := by omega
        go_enter Tryz.func111, Tryz.ntmps111
        go_wp2
        go_ret
        exact ⟨rfl, rfl⟩
    · have a1 : ¬ (65 : Int) ≤ (c : Int) := by omega
      have a3 : ¬ (97 : Int) ≤ (c : Int) := by omega
      by_cases k3 : 48 ≤ c
      · have a5 : (48 : Int) ≤ (c : Int) := by omega
        have a6 : ¬ (c : Int) ≤ 57 := by omega
        go_enter Tryz.func111, Tryz.ntmps111
        go_wp2
        go_ret
        exact ⟨rfl, rfl⟩
      · have a5 : ¬ (48 : Int) ≤ (c : Int) := by omega
        go_enter Tryz.func111, Tryz.ntmps111
        go_wp2
        go_ret
        exact ⟨rfl, rfl⟩

theorem isMode_any (w : World) (n : Int) :
    Calls Tryz.prog 57 #[.int .i64 n] w fun e w' => e = .returned (.bool (decide (0 ≤ n ∧ n ≤ 63))) ∧ w' = w := by
  by_cases h0 : 0 ≤ n
  · by_cases h1 : n ≤ 63
    · rw [decide_eq_true ⟨h0, h1⟩]
      go_enter Tryz.func57, Tryz.ntmps57
      go_wp2
      go_ret
      exact ⟨rfl, rfl⟩
    · rw [decide_eq_false (fun e => h1 e.2)]
      go_enter Tryz.func57, Tryz.ntmps57
      go_wp2
      go_ret
      exact ⟨rfl, rfl⟩
  · rw [decide_eq_false (fun e => h0 e.1)]
    go_enter Tryz.func57, Tryz.ntmps57
    go_wp2
    go_ret
    exact ⟨rfl, rfl⟩
end Go.Proofs.YtlkchajkhplapaaGreatDoor
namespace Go.Proofs.YtlkchajkhplapaaGreatDoor
open Go.ChangeShapes Go.WideShapes Go.RowKit

/-- The slice at A, of this capacity, has these elements, of sz cells each; its block lies below B. -/
def SR (w : World) (B : Nat) (A : Option Addr) (sz : Nat) (Cs : List (List Value)) (cap : Nat) : Prop :=
  Cs.length ≤ cap ∧ cap ≤ maxLen ∧ ((A = none ∧ cap = 0) ∨ ∃ a : Addr, A = some a ∧ (0 < Cs.length → a.spot = none ∧ a.block < B) ∧ ∀ k c, Cs[k]? = some c → ∀ j v, c[j]? = some v → w.cell? ⟨a.block, a.off + sz * k + j, none⟩ = some v)
section
variable {w w' : World} {B sz cap : Nat} {A : Option Addr} {Cs : List (List Value)}
theorem SR.keep (h : SR w B A sz Cs cap) (hk : ∀ b i, b < B → w'.cell? ⟨b, i, none⟩ = w.cell? ⟨b, i, none⟩) : SR w' B A sz Cs cap :=
  ⟨h.1, h.2.1, h.2.2.imp id fun ⟨a, hA, hb, hc⟩ => ⟨a, hA, hb, fun k c hkc j v hj => (hk _ _ (hb (by have := (List.getElem?_eq_some_iff.1 hkc).1; omega)).2).trans (hc k c hkc j v hj)⟩⟩
theorem SR.below {B' : Nat} (h : SR w B A sz Cs cap) (hb : Below B' w w') (hB : B ≤ B') : SR w' B A sz Cs cap := h.keep fun b i hlt => hb.cell (p := ⟨b, i, none⟩) (Nat.lt_of_lt_of_le hlt hB)
theorem SR.made (h : SR w B A sz Cs cap) (hg : w.grownBy w' none) (hB : B ≤ w.heap.size) : SR w' B A sz Cs cap := h.below (below_of_none hg) hB
/-- An element: where it lies, and its cells. -/
theorem SR.elem (h : SR w B A sz Cs cap) {k : Nat} (hk : k < Cs.length) : ∃ b off, A = some ⟨b, off, none⟩ ∧ b < B ∧ ∀ j v, (Cs[k])[j]? = some v → w.cell? ⟨b, off + sz * k + j, none⟩ = some v := by
  rcases h.2.2 with ⟨_, h0⟩ | ⟨⟨b, off, s⟩, hA, hb, hc⟩
  · have := h.1; omega
  · obtain ⟨hs, hlt⟩ := hb (by omega)
    simp at hs
    subst hs
    exact ⟨b, off, hA, hlt, fun j v hj => hc k _ (List.getElem?_eq_getElem hk) j v hj⟩
end

section
variable {P : Program} {w : World} {ops : Array Oper} {rest : List Oper} {o : Oper} {a : Act} {Q : Exit → Act → World → Prop} {ty : TypeId} {n : Nat} {p : List Value}
/-- A struct loaded from cells that are known. -/
theorem run_loadX (hT : AggT P ty n) {b off : Nat} (hc : ∀ j v, p[j]? = some v → w.cell? ⟨b, off + j, none⟩ = some v) (hp : p.length = n) : (loadVar ty ⟨b, off, none⟩).run P w = .ok (.agg p.toArray) w := by
  have hl : (loadCells ⟨b, off, none⟩ p.length).run P w = .ok p.toArray w := run_loadCells_list (P := P) w ⟨b, off, none⟩ p (fun j v hv => by rw [Addr.add_lit]; exact hc j v hv)
  rw [hp] at hl
  have hi := hT.hi
  cases hq : P.info? ty with
  | none => simp [hq] at hi
  | some i =>
    have hs : i.size = n := by simpa [hq] using hi
    simp [loadVar, Sem.run_bind, hT.ha, sizeOf, typeInfo, hq, hs, hl]
theorem wpList_loadX (hT : AggT P ty n) (hgd : o.guard = none) (x : Operand) (ho : o.op = .load ty x) {b off : Nat} (hc : ∀ j v, p[j]? = some v → w.cell? ⟨b, off + j, none⟩ = some v) (hp : p.length = n) (hx : a.eval x = .pointer (some ⟨b, off, none⟩))
    (hk : wpList P ops Q rest (a.put o.dst (.agg p.toArray)) w) : wpList P ops Q (o :: rest) a w := by
  refine wpList_plain hgd fun K hK => ?_
  unfold Oper.wp execOp
  simp only [ho, hx, Instr.loadAt, Instr.sureAddr, Sem.run_bind, Sem.run_pure, Result.andThen_ok, run_loadX hT hc hp]
  exact hK _ _ hk
end

/-- A slice of structs that came in, taken apart. -/
theorem SR.of_trod {H α : Type} [Inhabited α] {enc : TypeId × Value → H} {P : Program} {w : World} {base : Nat} {spare : Nat → Bool} {held : Bool} {T e : TypeId} {sz : Nat} (hT : P.underlying T = some (.slice e)) (hC : P.cellsOf e = sz) (hpos : 0 < sz) (mk : α → List Value) (ok : α → Prop) (hmk : ∀ f, ok f → (mk f).length = sz)
    (hopen : ∀ (fuel : Nat) (cs : List Value) (x : DataW H × List MemPlace), cs.length = sz → DataW.trod enc P w base spare held fuel e cs = some x → ∃ f, cs = mk f ∧ ok f)
    {A : Option Addr} {len cap : Nat} {d : DataW H} {p : List MemPlace} (h : DataW.Trod enc P w base spare held T (.slice A len cap) d p) :
    ∃ fs : List α, fs.length = len ∧ SR w w.heap.size A sz (fs.map mk) cap ∧ ∀ f ∈ fs, ok f := by
  obtain ⟨fuel, hf⟩ := h
  rcases Go.Deep.open_slice hT hf with ⟨hcs, _⟩ | ⟨a, n, c, m, q, D, Pl, hcs, _, hl, hm, hmm, _, hx⟩
  · simp [Value.cells] at hcs
    obtain ⟨rfl, rfl, rfl⟩ := hcs
    exact ⟨[], rfl, ⟨Nat.le_refl _, Nat.zero_le _, .inl ⟨rfl, rfl⟩⟩, fun f hf => by cases hf⟩
  · simp [Value.cells] at hcs
    obtain ⟨rfl, rfl, rfl⟩ := hcs
    have hml : len ≤ m := by rw [hmm]; split <;> omega
    obtain ⟨F, hF⟩ := Go.Deep.choose_lt (α := α) (n := len) (p := fun i f => (∀ j v, (mk f)[j]? = some v → w.cell? ((a.add (sz * i)).add j) = some v) ∧ ok f) (fun i hi => by
      obtain ⟨cs', h1, h2⟩ := hx i (by omega)
      rw [hC] at h1
      obtain ⟨_, hlen, hat⟩ := World.cells?_some h1
      obtain ⟨f, rfl, hok⟩ := hopen _ _ _ hlen h2
      rw [Nat.mul_comm i sz] at hat
      refine ⟨f, fun j v hj => ?_, hok⟩
      have hj' := (List.getElem?_eq_some_iff.1 hj).1
      rw [hat j (by omega)]
      exact hj)
    have h0 : 0 < len → a.spot = none ∧ a.block < w.heap.size := fun h => by
      obtain ⟨h1, h2⟩ := hF 0 h
      have h3 := h1 0 _ (List.getElem?_eq_getElem (by rw [hmk _ h2]; exact hpos))
      have h4 : (a.add (sz * 0)).add 0 = a := by simp [Addr.add]
      rw [h4] at h3
      exact ⟨World.cell?_spot h3, World.block_lt_of_cell? w _ h3⟩
    refine ⟨(List.range len).map F, by simp, ⟨by simp; omega, hm, .inr ?_⟩, fun f hf => ?_⟩
    · refine ⟨a, rfl, ?_, fun k c' hk j v hj => ?_⟩
      · intro h
        simp at h
        exact h0 h
      · rw [List.getElem?_map] at hk
        obtain ⟨f, hk', rfl⟩ := Option.map_eq_some_iff.1 hk
        rw [List.getElem?_map] at hk'
        obtain ⟨k', hk2, rfl⟩ := Option.map_eq_some_iff.1 hk'
        have hkl := (List.getElem?_eq_some_iff.1 hk2).1
        simp at hkl
        rw [List.getElem?_range hkl] at hk2
        injection hk2 with hk2
        subst hk2
        have h4 := (hF k hkl).1 j v hj
        have hs := (h0 (by omega)).1
        obtain ⟨ab, ao, asp⟩ := a
        simp only at hs
        subst hs
        rw [Addr.add_lit, Addr.add_lit] at h4
        exact h4
    · obtain ⟨k, hk, rfl⟩ := List.mem_map.1 hf
      exact (hF k (by simpa using hk)).2
end Go.Proofs.YtlkchajkhplapaaGreatDoor
