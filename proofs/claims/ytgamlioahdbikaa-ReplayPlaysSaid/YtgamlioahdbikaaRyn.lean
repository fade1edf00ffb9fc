/- The walk of the document's Seen. -/
import Derived.Test.YtgamlioahdbikaaRym
namespace Go.Proofs.Ytgamlioahdbikaa
open Go.RowKit Go.Maps

def RymF (m ab ao n cap k : Nat) (y u : Au) (E : Bool) : Nat → Value → World → Prop
  | 0, v, _ => v = .bool false
  | 1, v, _ => v = .bool false
  | 2, v, _ => v = .pointer (some ⟨m, 0, none⟩)
  | 3, v, _ => v = .pointer (some ⟨m, 0, none⟩)
  | 4, v, _ => v = .pointer (some ⟨m, 0, none⟩)
  | 5, v, _ => v = .slice (some ⟨ab, ao, none⟩) n cap
  | 6, v, _ => v = .int .i64 (k : Int)
  | 7, v, _ => v = .pointer (some ⟨ab, ao + k * 19, none⟩)
  | 8, v, _ => v = .agg (auC y).toArray
  | 9, v, _ => v = .agg (auC u).toArray
  | 10, v, _ => v = .bool E
  | 11, v, _ => v = .bool E
  | 12, v, _ => v = .bool E
  | _, _, _ => True
theorem RymF.kept {m ab ao n cap k : Nat} {y u : Au} {E : Bool} : ∀ (j : Nat) (v : Value) (x z : World), RymF m ab ao n cap k y u E j v x → RymF m ab ao n cap k y u E j v z
  | 0, _, _, _, h => h
  | 1, _, _, _, h => h
  | 2, _, _, _, h => h
  | 3, _, _, _, h => h
  | 4, _, _, _, h => h
  | 5, _, _, _, h => h
  | 6, _, _, _, h => h
  | 7, _, _, _, h => h
  | 8, _, _, _, h => h
  | 9, _, _, _, h => h
  | 10, _, _, _, h => h
  | 11, _, _, _, h => h
  | 12, _, _, _, h => h
  | _ + 13, _, _, _, _ => by simp [RymF]
def RymFT : Nat → Value → World → Prop
  | 0, v, _ => v = .bool true
  | 1, v, _ => v = .bool true
  | 2, _, _ => True
  | 3, _, _ => True
  | 4, _, _ => True
  | 5, _, _ => True
  | 6, _, _ => True
  | 7, _, _ => True
  | 8, _, _ => True
  | 9, _, _ => True
  | 10, _, _ => True
  | 11, v, _ => v = .bool true
  | 12, v, _ => v = .bool true
  | _, _, _ => True
theorem RymFT.kept : ∀ (j : Nat) (v : Value) (x z : World), RymFT j v x → RymFT j v z
  | 0, _, _, _, h => h
  | 1, _, _, _, h => h
  | 2, _, _, _, h => h
  | 3, _, _, _, h => h
  | 4, _, _, _, h => h
  | 5, _, _, _, h => h
  | 6, _, _, _, h => h
  | 7, _, _, _, h => h
  | 8, _, _, _, h => h
  | 9, _, _, _, h => h
  | 10, _, _, _, h => h
  | 11, _, _, _, h => h
  | 12, _, _, _, h => h
  | _ + 13, _, _, _, _ => by simp [RymFT]

theorem wp_loadX {P : Program} {w : World} {o : Oper} {a : Act} {K : Act → World → Prop} {Q : Exit → Act → World → Prop} {ty : TypeId} {n : Nat} {p : List Value} (hT : AggT P ty n) (x : Operand) (ho : o.op = .load ty x) {b off : Nat} (hc : ∀ j v, p[j]? = some v → w.cell? ⟨b, off + j, none⟩ = some v) (hp : p.length = n) (hx : a.eval x = .pointer (some ⟨b, off, none⟩))
    (hk : K (a.put o.dst (.agg p.toArray)) w) : o.wp P a w K Q := by
  unfold Oper.wp execOp
  simp only [ho, hx, Instr.loadAt, Instr.sureAddr, Sem.run_bind, Sem.run_pure, Result.andThen_ok, run_loadX hT hc hp]
  exact hk
theorem above_keep (a b : Int) (w : World) (ha : I64 a) (hb : I64 b) : Calls Try.prog 19 #[.int .i64 a, .int .i64 b] w fun e w' => e = .returned (.bool (far a b)) ∧ w = w' := (above_any a b w ha hb).mono fun _ _ h => ⟨h.1, h.2.symm⟩
theorem grown_drewN (w : World) (n : Nat) (r : Option Nat) : w.grownBy (w.drewN n) r := ⟨rfl, rfl, rfl, Nat.le_refl _, fun _ _ _ => rfl⟩
theorem none_row {a b c : World} {r : Option Nat} (h : a.grownBy b none) (k : b.grownBy c r) (hr : ∀ g, r = some g → a.heap.size ≤ g) : a.grownBy c none :=
  ⟨k.os.trans h.os, k.tape.trans h.tape, k.output.trans h.output, Nat.le_trans h.size k.size, fun i hi hne => (k.block i (Nat.lt_of_lt_of_le hi h.size) (fun e => by have := hr i e.symm; omega)).trans (h.block i hi hne)⟩
theorem CB.row_ {w w' : World} {g : Nat} {t : TypeId} {cs : List Value} {r : Option Nat} (h : CB w g t cs) (hg : w.grownBy w' r) (hr : ∀ x, r = some x → x ≠ g) : CB w' g t cs := (hg.block g h.lt (fun e => hr g e.symm rfl)).trans h
def RymF7 (m : Nat) (s1 : St) (vl : Value) (u : Au) : Nat → Value → World → Prop
  | 0, v, _ => v = .pointer (some ⟨m, 0, none⟩)
  | 1, v, _ => v = .pointer (some ⟨m, 0, none⟩)
  | 2, v, _ => v = .pointer (some ⟨m, 0, none⟩)
  | 3, v, _ => v = .pointer (some ⟨m, 0, none⟩)
  | 4, v, _ => v = vl
  | 5, v, _ => v = .agg (auC u).toArray
  | 6, v, x => ∃ g, v = .slice (some ⟨g, 0, none⟩) 1 1 ∧ CB x g 35 (auC u) ∧ g ≠ m ∧ vl.ownBlock ≠ some g
  | 7, v, x => RowX x 0 35 19 v ((s1.M.map auC) ++ [auC u]) ∧ v.ownBlock ≠ some m
  | 8, v, _ => v = .pointer (some ⟨m, 0, none⟩)
  | 9, v, _ => v = .pointer (some ⟨m, 0, none⟩)
  | 10, _, x => ∃ v, CB x m 30 [v, .bool s1.cl, .int .i64 s1.beg] ∧ RowX x 0 35 19 v ((s1.M.map auC) ++ [auC u])
  | _, _, _ => True
def RymT7 (m : Nat) (vl : Value) : Nat → World → World → Prop
  | 6, x, y => x.grownBy y none
  | 7, x, y => x.grownBy y vl.ownBlock
  | 10, x, y => x.grownBy y (some m)
  | _, x, y => x = y
theorem RymT7.same {m : Nat} {vl : Value} : ∀ (i : Nat) (x y : World), i ≠ 6 → i ≠ 7 → i ≠ 10 → RymT7 m vl i x y → x = y
  | 6, _, _, a, _, _, _ => absurd rfl a
  | 7, _, _, _, b, _, _ => absurd rfl b
  | 10, _, _, _, _, c, _ => absurd rfl c
  | 0, _, _, _, _, _, h => h
  | 1, _, _, _, _, _, h => h
  | 2, _, _, _, _, _, h => h
  | 3, _, _, _, _, _, h => h
  | 4, _, _, _, _, _, h => h
  | 5, _, _, _, _, _, h => h
  | 8, _, _, _, _, _, h => h
  | 9, _, _, _, _, _, h => h
  | _ + 11, _, _, _, _, _, h => h
theorem RymF7.flat {m : Nat} {s1 : St} {vl : Value} {u : Au} : ∀ (j : Nat) (v : Value) (x y : World), j ≠ 6 → j ≠ 7 → j ≠ 10 → RymF7 m s1 vl u j v x → RymF7 m s1 vl u j v y
  | 6, _, _, _, a, _, _, _ => absurd rfl a
  | 7, _, _, _, _, b, _, _ => absurd rfl b
  | 10, _, _, _, _, _, c, _ => absurd rfl c
  | 0, _, _, _, _, _, _, h => h
  | 1, _, _, _, _, _, _, h => h
  | 2, _, _, _, _, _, _, h => h
  | 3, _, _, _, _, _, _, h => h
  | 4, _, _, _, _, _, _, h => h
  | 5, _, _, _, _, _, _, h => h
  | 8, _, _, _, _, _, _, h => h
  | 9, _, _, _, _, _, _, h => h
  | _ + 11, _, _, _, _, _, _, _ => trivial
theorem RymF7.kept {m : Nat} {s1 : St} {vl : Value} {u : Au} (i j : Nat) (v : Value) (x y : World) (hji : j ≠ i) (hT : RymT7 m vl i x y) (hF : RymF7 m s1 vl u j v x) (h76 : j = 7 → i = 6 → False) (h106 : j = 10 → i = 6 → False) (h107 : j = 10 → i = 7 → False) : RymF7 m s1 vl u j v y := by
  by_cases a6 : i = 6
  · subst a6
    exact RymF7.flat j v x y hji (fun e => h76 e rfl) (fun e => h106 e rfl) hF
  · by_cases a7 : i = 7
    · subst a7
      by_cases b6 : j = 6
      · subst b6
        obtain ⟨g, h1, h2, h3, h4⟩ := hF
        have hg : x.grownBy y vl.ownBlock := hT
        exact ⟨g, h1, (hg.block g h2.lt (fun e => h4 e.symm)).trans h2, h3, h4⟩
      · exact RymF7.flat j v x y b6 hji (fun e => h107 e rfl) hF
    · by_cases a10 : i = 10
      · subst a10
        have hg : x.grownBy y (some m) := hT
        by_cases b6 : j = 6
        · subst b6
          obtain ⟨g, h1, h2, h3, h4⟩ := hF
          exact ⟨g, h1, h2.grown hg h3, h3, h4⟩
        · by_cases b7 : j = 7
          · subst b7
            exact ⟨hF.1.row hg hF.2, hF.2⟩
          · exact RymF7.flat j v x y b6 b7 hji hF
      · rw [← RymT7.same i x y a6 a7 a10 hT]
        exact hF
def RymG (w : World) (m g4 : Nat) (s1 : St) (vl : Value) (u : Au) (L : Nat → Bool) (x : World) : Prop :=
  (L 10 = false → CB x m 30 [vl, .bool s1.cl, .int .i64 s1.beg]) ∧ (L 7 = false → RowX x 0 35 19 vl (s1.M.map auC)) ∧ CB x g4 35 (auC u) ∧ w.grownBy x (some m)
theorem RymG.no {ops : Array Oper} {L : Nat → Bool} {i j : Nat} (l0 : L i = false) (up : ∀ j e, L j = true → Inv.afterB ops j e = true → L e = true) (ha : Inv.afterB ops j i = true) : L j = false := by
  cases h : L j with
  | false => rfl
  | true => have := up j i h ha; rw [l0] at this; cases this
theorem moreT_ne {L : Nat → Bool} {i j : Nat} (h : i ≠ j) : Inv.moreT i L j = L j := by unfold Inv.moreT; rw [decide_eq_false h, Bool.false_or]
section
variable {w x y : World} {m g4 i : Nat} {s1 : St} {vl : Value} {u : Au} {L : Nat → Bool}
theorem RymG.more (h7 : i ≠ 7) (h10 : i ≠ 10) (h : RymG w m g4 s1 vl u L x) : RymG w m g4 s1 vl u (Inv.moreT i L) x := by
  unfold RymG at *
  rw [moreT_ne h7, moreT_ne h10]
  exact h
theorem RymG.made (h7 : i ≠ 7) (h10 : i ≠ 10) (hg : x.grownBy y none) (h : RymG w m g4 s1 vl u L x) : RymG w m g4 s1 vl u (Inv.moreT i L) y :=
  RymG.more h7 h10 ⟨fun e => (h.1 e).kept hg, fun e => (h.2.1 e).none hg, h.2.2.1.kept hg, grown_trans' h.2.2.2 (grown_some hg m)⟩
theorem RymG.app (hm : ∀ z, vl.ownBlock = some z → z ≠ m) (ha : ∀ z, vl.ownBlock = some z → z ≠ g4) (hv : ∀ z, vl.ownBlock = some z → w.heap.size ≤ z) (_ : w.heap.size ≤ x.heap.size) (hg : x.grownBy y vl.ownBlock) (h : RymG w m g4 s1 vl u L x) : RymG w m g4 s1 vl u (Inv.moreT 7 L) y := by
  refine ⟨fun e => ?_, fun e => ?_, CB.row_ h.2.2.1 hg ha, ?_⟩
  · rw [moreT_ne (by omega)] at e
    exact CB.row_ (h.1 e) hg hm
  · simp [Inv.moreT] at e
  · have k := h.2.2.2
    exact ⟨hg.os.trans k.os, hg.tape.trans k.tape, hg.output.trans k.output, Nat.le_trans k.size hg.size, fun i hi hne => (hg.block i (Nat.lt_of_lt_of_le hi k.size) (fun e => by have := hv i e.symm; omega)).trans (k.block i hi hne)⟩
theorem RymG.done (hmg : g4 ≠ m) (l7 : L 7 = true) (hg : x.grownBy y (some m)) (h : RymG w m g4 s1 vl u L x) : RymG w m g4 s1 vl u (Inv.moreT 10 L) y := by
  refine ⟨fun e => ?_, fun e => ?_, h.2.2.1.grown hg hmg, grown_trans' h.2.2.2 hg⟩
  · simp [Inv.moreT] at e
  · rw [moreT_ne (by omega), l7] at e
    cases e
end
theorem keep_take (now : Int) {M : List Au} {k : Nat} {y : Au} (hk : k < M.length) (hy : y = M[k]) : keepA now (M.take (k + 1)) = keepA now (M.take k) ++ (if far now y.2.1 = true then [] else [y]) := by
  unfold keepA
  rw [List.take_succ_eq_append_getElem hk, List.filter_append, hy]
  congr 1
  cases hf : far now M[k].2.1 <;> simp [hf]
/-- What stands at the head of each round. -/
def RelN (w : World) (m : Nat) (s : St) (u : Au) (now : Int) (v : Value) (k : Nat) (vl kn : Value) (wr : World) : Prop :=
  CB wr m 30 [v, .bool s.cl, .int .i64 s.beg] ∧ RowX wr (w.heap.size + 1) 35 19 vl ((keepA now (s.M.take k)).map auC) ∧ CB wr w.heap.size 35 (auC u) ∧ kn = .bool (decide (u ∈ keepA now (s.M.take k))) ∧ w.grownBy wr none

set_option maxRecDepth 10000 in
set_option maxHeartbeats 1000000 in
theorem refSeen_shut (w : World) (m : Nat) (s : St) (u : Au) (now : Int) (h : RS w m s) (hu : auOk u) (hn : I64 now) (hf1 : far u.2.1 now = false) (hf2 : far now u.2.1 = false) (hc : s.cl = true) (hb : far u.2.1 s.beg = false) :
    Calls Try.prog 13 #[.pointer (some ⟨m, 0, none⟩), .agg (auC u).toArray, .int .i64 now] w (SeenD w m (s, 68)) := by
  have q1 := (CB.new w 35 (auC u)).at_ (auC_ti u)
  have HS := Lib.hid (h.none (grown_alloc w (.cells (auC u).toArray 35) none))
  have HG := Lib.hid (grown_alloc w (.cells (auC u).toArray 35) (some m))
  obtain ⟨⟨v, hc0, hv⟩, hb0, _⟩ := h
  have p1 := (hc0.alloc (.cells (auC u).toArray 35)).at_ (i := 1) rfl
  have p2 := (hc0.alloc (.cells (auC u).toArray 35)).at_ (i := 2) rfl
  rw [hc] at p1
  have IU := Lib.hid hu.ti
  have IN := Lib.hid hn
  have H1 := Lib.hid hf1
  have H2 := Lib.hid hf2
  have HA := Lib.hid (show ∀ W, Calls Try.prog 19 #[.int .i64 u.2.1, .int .i64 s.beg] W fun e w' => e = .returned (.bool false) ∧ w' = W from fun W => (above_any u.2.1 s.beg W hu.ti hb0).mono fun e w' h => by rw [hb] at h; exact h)
  have TK0 := Lib.hid True.intro
  clear hc0 hv hb0 hu hn hf1 hf2 hc hb
  go_enter Try.func13, Try.ntmps13
  go_wp2_with (first
    | (go_at_call 19; have hx := TK0; clear hx; refine (above_any u.2.1 now _ IU.out IN.out).mono ?_; rintro e w1 ⟨rfl, rfl⟩; rw [H1.out]; clear TK0)
    | (go_at_call 19; refine (above_any now u.2.1 _ IN.out IU.out).mono ?_; rintro e w1 ⟨rfl, rfl⟩; rw [H2.out]))
  go_quiet ((go_at_call 19; with_reducible exact Calls.quiet_of_same (HA.out _)))
  have HS2 := Lib.hid (HS.out.none (grown_drewN _ nq none))
  have HG2 := Lib.hid (grown_trans' HG.out (grown_drewN _ nq (some m)))
  clear p1 p2 q1
  go_wp2
  go_ret
  exact ⟨rfl, HS2.out, HG2.out⟩

theorem row_ne {w : World} {base sz g : Nat} {e : TypeId} {v : Value} {Cs : List (List Value)} (h : RowX w base e sz v Cs) (hg : g < base) : ∀ x, v.ownBlock = some x → x ≠ g := fun x hx => by have := (h.lt x hx).1; omega
theorem run_eql_struct (t : TypeId) (A B : Array Value) (w : World) : (binOp .eql t (.agg A) (.agg B)).run Try.prog w = ((Op.equalIn 10000 t (.agg A) (.agg B)).run Try.prog w).andThen fun q w' => .ok (.bool q) w' := by
  simp [binOp, Op.equal, Op.maxDepth]
set_option maxRecDepth 10000 in
set_option maxHeartbeats 4000000 in
theorem refSeen_open (w : World) (m : Nat) (s : St) (u : Au) (now : Int) (h : RS w m s) (hu : auOk u) (hn : I64 now) (hf1 : far u.2.1 now = false) (hf2 : far now u.2.1 = false) (hc : s.cl = false ∨ (s.cl = true ∧ far u.2.1 s.beg = true)) (hlen : s.M.length ≤ 1000000) (r : St × Int)
    (hr : r = (if u ∈ keepA now s.M then (⟨keepA now s.M, s.cl, s.beg⟩, 66) else if 16 ≤ (keepA now s.M).length then (⟨keepA now s.M, s.cl, s.beg⟩, 2) else (⟨keepA now s.M ++ [u], s.cl, s.beg⟩, 0))) :
    Calls Try.prog 13 #[.pointer (some ⟨m, 0, none⟩), .agg (auC u).toArray, .int .i64 now] w (SeenD w m r) := by
  have q1 := (CB.new w 35 (auC u)).at_ (auC_ti u)
  have HS := Lib.hid (h.none (grown_alloc w (.cells (auC u).toArray 35) none))
  have HG0 := Lib.hid (grown_alloc w (.cells (auC u).toArray 35) none)
  have HML := Lib.hid h.lt
  have HOKS := Lib.hid h.2.2
  obtain ⟨⟨v, hc0, hv⟩, hb0, _⟩ := h
  obtain ⟨A, cap, rfl, hsr, hvlt⟩ := hv.shape
  obtain ⟨n, hnn⟩ : ∃ n, n = s.M.length := ⟨_, rfl⟩
  rw [List.length_map, ← hnn] at hc0
  have HN := Lib.hid hnn.symm
  have HNM := Lib.hid (show n ≤ 1000000 by omega)
  have HSR := Lib.hid hsr
  have HUW := Lib.hid (show auW u from ⟨hu.lk, hu.ti, hu.no⟩)
  have p1 := (hc0.alloc (.cells (auC u).toArray 35)).at_ (i := 1) rfl
  have p2 := (hc0.alloc (.cells (auC u).toArray 35)).at_ (i := 2) rfl
  have B0 := Lib.hid (hc0.alloc (.cells (auC u).toArray 35))
  have A0 := Lib.hid (CB.new w 35 (auC u))
  have IU := Lib.hid hu.ti
  have IN := Lib.hid hn
  have HOA := Lib.hid hu
  have H1 := Lib.hid hf1
  have H2 := Lib.hid hf2
  have HR := Lib.hid hr
  have HBE := Lib.hid hb0
  have TK0 := Lib.hid True.intro
  have HC := Lib.hid hc
  clear hv hu hn hf1 hf2 hr hsr hvlt hlen hnn hb0 hc0
  rcases hc with hc | ⟨hc, hb⟩
  · rw [hc] at p1
    clear hc
    go_enter Try.func13, Try.ntmps13
    go_wp2_with (first
    | (go_at_call 19; have hx := TK0; clear hx; refine (above_any u.2.1 now _ IU.out IN.out).mono ?_; rintro e w1 ⟨rfl, rfl⟩; rw [H1.out]; clear TK0)
    | (go_at_call 19; refine (above_any now u.2.1 _ IN.out IU.out).mono ?_; rintro e w1 ⟨rfl, rfl⟩; rw [H2.out]))
    go_quiet (fail)
    have BZ := Lib.hid (B0.out.kept (grown_drewN _ nq none))
    have AZ := Lib.hid (A0.out.kept (grown_drewN _ nq none))
    have GZ := Lib.hid (grown_trans' HG0.out (grown_drewN _ nq none))
    have ZZ := Lib.hid (show (World.drewN (w.alloc (.cells (auC u).toArray 35)) nq).heap.size = w.heap.size + 1 from World.size_alloc w _)
    clear p1 p2 q1
    generalize World.drewN (w.alloc (.cells (auC u).toArray 35)) nq = wz at *
    have HB5 := Lib.hid (BZ.out.alloc (.cells #[] 35))
    have HA5 := Lib.hid (AZ.out.alloc (.cells #[] 35))
    have HR5 := Lib.hid (RowX.new0 wz (w.heap.size + 1) 35 19 (by rw [ZZ.out]; exact Nat.le_refl _))
    have HW5 := Lib.hid (grown_trans' GZ.out (grown_alloc wz (.cells #[] 35) none))
    go_wp2
    go_loopw [7, 8, 9] (fun vl kn i wr => ∃ k : Nat, k ≤ n ∧ i = .int .i64 k ∧ RelN w m s u now (.slice A n cap) k vl kn wr) (fun _ _ i _ => n - (intOf i).toNat)
    case atStart => exact ⟨0, Nat.zero_le _, rfl, HB5.out, HR5.out, HA5.out, by simp [keepA], HW5.out⟩
    case round =>
      obtain ⟨k, hk, rfl, hBM, hRL, hBA, rfl, hW⟩ := hrel
      have HBM := Lib.hid hBM
      have HBA := Lib.hid hBA
      have HW := Lib.hid hW
      have HRL0 := Lib.hid hRL
      have q0 : wr.cell? ⟨m, 0, none⟩ = some (.slice A n cap) := hBM.at_ rfl
      have hn0 := HNM.out
      by_cases hlt : k < n
      · obtain ⟨y, hy⟩ : ∃ y, y = s.M[k]'(by rw [HN.out]; exact hlt) := ⟨_, rfl⟩
        obtain ⟨ab, ao, hAe, hab, hcells⟩ := HSR.out.elem (k := k) (by rw [List.length_map, HN.out]; exact hlt)
        have HYO := Lib.hid (show auOk y by rw [hy]; exact HOKS.out _ (List.getElem_mem _))
        have HYW := Lib.hid (show auW y from ⟨HYO.out.lk, HYO.out.ti, HYO.out.no⟩)
        have HYI := Lib.hid HYO.out.ti
        have hce : (s.M.map auC)[k]'(by rw [List.length_map, HN.out]; exact hlt) = auC y := by rw [List.getElem_map, hy]
        rw [hce] at hcells
        have HC0 := Lib.hid hcells
        have HCELL := Lib.hid (show ∀ j v, (auC y)[j]? = some v → wr.cell? ⟨ab, ao + 19 * k + j, none⟩ = some v from fun j v hj => ((below_of_none HW.out).cell (p := ⟨ab, _, none⟩) hab).trans (hcells j v hj))
        have HCE2 := Lib.hid (show ∀ j v, (auC y)[j]? = some v → wr.cell? ⟨ab, ao + k * 19 + j, none⟩ = some v from fun j v hj => by rw [Nat.mul_comm k 19]; exact HCELL.out j v hj)
        have HTK := Lib.hid (keep_take now (k := k) (M := s.M) (y := y) (by rw [HN.out]; exact hlt) hy)
        have qT : wr.cell? ⟨ab, ao + k * 19 + 1, none⟩ = some (.int .i64 y.2.1) := HCE2.out 1 _ (auC_ti y)
        have HAB := Lib.hid hab
        subst hAe
        clear hBM hRL hBA hW hcells hce hy hab
        cases hfy : far now y.2.1 with
        | true =>
          have HFY := Lib.hid hfy
          have HTK1 := Lib.hid (show keepA now (s.M.take (k + 1)) = keepA now (s.M.take k) by rw [HTK.out, hfy]; simp)
          clear hfy
          go_wp2_with (go_at_call 19; refine (above_keep now y.2.1 _ IN.out HYI.out).mono ?_; rintro e w1 ⟨rfl, rfl⟩; rw [HFY.out])
          go_roundw
          case rel => exact ⟨k + 1, by omega, by go_num, HBM.out, by rw [HTK1.out]; exact HRL0.out, HBA.out, by rw [HTK1.out], HW.out⟩
          case measure => simp [intOf]; omega
        | false =>
          have HFY := Lib.hid hfy
          have HTK1 := Lib.hid (show keepA now (s.M.take (k + 1)) = keepA now (s.M.take k) ++ [y] by rw [HTK.out, hfy]; simp)
          have HVM := Lib.hid (row_ne HRL0.out (g := m) (by have := HML.out; omega))
          have HVA := Lib.hid (row_ne HRL0.out (g := w.heap.size) (by omega))
          have HVW := Lib.hid (fun g hg => Nat.le_of_lt (HRL0.out.lt g hg).1)
          have HRL := Lib.hid (HRL0.out.none (grown_alloc wr (.cells (auC y).toArray 35) none))
          have HLC := Lib.hid (show ∀ j v, (auC y)[j]? = some v → (wr.alloc (.cells (auC y).toArray 35)).cell? ⟨wr.heap.size, 0 + j, none⟩ = some v from fun j v hj => by rw [Nat.zero_add]; exact (CB.new wr 35 (auC y)).at_ hj)
          have HKL := Lib.hid (show ((keepA now (s.M.take k)).map auC).length ≤ 1000000000 by rw [List.length_map]; exact Nat.le_trans (List.length_filter_le _ _) (Nat.le_trans (List.length_take_le' _ _) (by rw [HN.out]; omega)))
          have HBS := Lib.hid (show w.heap.size + 1 ≤ (wr.alloc (.cells (auC y).toArray 35)).heap.size by have h1 := HBA.out.lt; rw [World.size_alloc]; omega)
          have HMA := Lib.hid (show (keepA now (s.M.take k)).map auC ++ [auC y] = (keepA now (s.M.take (k + 1))).map auC by rw [HTK1.out, List.map_append]; rfl)
          clear hfy
          cases hkn : decide (u ∈ keepA now (s.M.take k)) with
          | true =>
            have HKN := Lib.hid (show decide (u ∈ keepA now (s.M.take (k + 1))) = true by rw [HTK1.out]; exact decide_eq_true (List.mem_append_left _ (of_decide_eq_true hkn)))
            clear hkn
            go_wp2_with (first
              | (go_at_call 19; refine (above_keep now y.2.1 _ IN.out HYI.out).mono ?_; rintro e w1 ⟨rfl, rfl⟩; rw [HFY.out])
              | refine wpList_loadX (p := auC y) aggA rfl (.tmp 61) rfl (b := ab) (off := ao + k * 19) HCE2.out (auC_len HYW.out) (by first | rfl | go_simp) ?_
              | refine wpList_lit1 Try.underlying28 aggA.hi zeroA_run (auC_len HYW.out) (by omega) (by omega) rfl (.tmp 62) rfl (by first | rfl | go_simp) ?_
              | (refine wpList_appX rowA rfl (.tmp 55) (.tmp 63) rfl (b := wr.heap.size) (off := 0) (c := 1) HRL.out HLC.out (auC_len HYW.out) (auC_one y) (by first | rfl | go_simp) (by first | rfl | go_simp) HKL.out HBS.out ?_; intro vl2 w3 hrow3 hgr3 hat3; have ROW3 := Lib.hid hrow3; have B3 := Lib.hid ((HBM.out.alloc _).row_ hgr3 HVM.out); have A3 := Lib.hid ((HBA.out.alloc _).row_ hgr3 HVA.out); have W3 := Lib.hid (none_row (grown_trans' HW.out (grown_alloc wr _ none)) hgr3 HVW.out); clear hrow3 hgr3 hat3))
            rw [HMA.out] at ROW3
            clear q0 qT
            refine region_byT (n := 13) (ds := [some 65, some 66, some 67, some 68, some 69, some 70, some 71, some 72, some 73, some 74, some 75, some 76, some 8]) (fun _ x y => x = y) (fun _ x => w3.grownBy x none) (RymFT) (by kernel_rfl) (by kernel_rfl) rfl (by kernel_rfl) (fun i j v x y _ _ hT hF => by rw [← hT]; exact hF) (grown_drew (World.grownBy.refl w3 none)) ⟨⟨⟨⟨⟨⟨⟨⟨⟨⟨⟨⟨⟨trivial, ?_⟩, ?_⟩, ?_⟩, ?_⟩, ?_⟩, ?_⟩, ?_⟩, ?_⟩, ?_⟩, ?_⟩, ?_⟩, ?_⟩, ?_⟩ ?_
            · refine Inv.dutyT_plain rfl rfl (fun L vs a x l0 hG dep up val ev out K hK => ?_)
              have e8 : a.eval (.tmp 8) = .bool true := (out 8 (Inv.ne_of_late (J := 12) (i := 0) (n := 95) (by kernel_rfl) (by kernel_rfl) l0 up (by kernel_rfl))).trans rfl
              refine Inv.wp_value (v := .bool true) ?_ (hK.out _ _ rfl (hG) rfl)
              clear hG hK K dep up val ev out l0
              generalize a.eval = ρ at *
              (simp [execOp, go_sem, *]; done)
            · refine Inv.dutyT_plain rfl rfl (fun L vs a x l0 hG dep up val ev out K hK => ?_)
              have L65 := dep 0 (by kernel_rfl)
              have e65 : a.eval (.tmp 65) = .bool true := (ev 0 65 L65 (by kernel_rfl)).trans (val 0 L65)
              refine Inv.wp_value (v := .bool true) ?_ (hK.out _ _ rfl (hG) rfl)
              clear hG hK K dep up val ev out l0
              generalize a.eval = ρ at *
              (simp [execOp, go_sem, *]; done)
            · exact Inv.dutyT_not rfl rfl rfl (by kernel_rfl) (fun v w h => h) (fun x => rfl) (fun L x h => h) (fun x => trivial)
            · exact Inv.dutyT_not rfl rfl rfl (by kernel_rfl) (fun v w h => h) (fun x => rfl) (fun L x h => h) (fun x => trivial)
            · exact Inv.dutyT_not rfl rfl rfl (by kernel_rfl) (fun v w h => h) (fun x => rfl) (fun L x h => h) (fun x => trivial)
            · exact Inv.dutyT_not rfl rfl rfl (by kernel_rfl) (fun v w h => h) (fun x => rfl) (fun L x h => h) (fun x => trivial)
            · exact Inv.dutyT_not rfl rfl rfl (by kernel_rfl) (fun v w h => h) (fun x => rfl) (fun L x h => h) (fun x => trivial)
            · exact Inv.dutyT_not rfl rfl rfl (by kernel_rfl) (fun v w h => h) (fun x => rfl) (fun L x h => h) (fun x => trivial)
            · exact Inv.dutyT_not rfl rfl rfl (by kernel_rfl) (fun v w h => h) (fun x => rfl) (fun L x h => h) (fun x => trivial)
            · exact Inv.dutyT_not rfl rfl rfl (by kernel_rfl) (fun v w h => h) (fun x => rfl) (fun L x h => h) (fun x => trivial)
            · exact Inv.dutyT_not rfl rfl rfl (by kernel_rfl) (fun v w h => h) (fun x => rfl) (fun L x h => h) (fun x => trivial)
            · refine Inv.dutyT_plain rfl rfl (fun L vs a x l0 hG dep up val ev out K hK => ?_)
              have ek : ∀ u, a.eval (.const u) = u := fun _ => rfl
              have L66 := dep 1 (by kernel_rfl)
              have e66 : a.eval (.tmp 66) = .bool true := (ev 1 66 L66 (by kernel_rfl)).trans (val 1 L66)
              refine Inv.wp_value (v := .bool true) ?_ (hK.out _ _ rfl hG rfl)
              clear hG hK K dep up val ev out l0
              generalize a.eval = ρ at *
              (simp [execOp, go_sem, *]; done)
            · refine Inv.dutyT_plain rfl rfl (fun L vs a x l0 hG dep up val ev out K hK => ?_)
              have L76 := dep 11 (by kernel_rfl)
              have e76 : a.eval (.tmp 76) = .bool true := (ev 11 76 L76 (by kernel_rfl)).trans (val 11 L76)
              refine Inv.wp_value (v := .bool true) ?_ (hK.out _ _ rfl (hG) rfl)
              clear hG hK K dep up val ev out l0
              generalize a.eval = ρ at *
              (simp [execOp, go_sem, *]; done)
            intro vs L4 w4 hL4 hG hv
            have hZ : vs 12 = .bool true := hv 12 (by omega)
            simp only [Inv.putAll, Act.put, List.setIfInBounds_toArray, List.set_cons_zero, List.set_cons_succ, Nat.zero_add, Nat.reduceAdd]
            rw [hZ]
            clear hv hZ
            have W4 := Lib.hid hG
            clear hG
            have B4 := Lib.hid (B3.out.kept W4.out)
            have A4 := Lib.hid (A3.out.kept W4.out)
            have R4 := Lib.hid (ROW3.out.none W4.out)
            have G4 := Lib.hid (grown_trans' W3.out W4.out)
            go_wp2
            go_roundw
            case rel => exact ⟨k + 1, by omega, by go_num, B4.out, R4.out, A4.out, by rw [HKN.out], G4.out⟩
            case measure => simp [intOf]; omega
          | false =>
            obtain ⟨E, hE⟩ : ∃ E, E = decide (y = u) := ⟨_, rfl⟩
            have HKN := Lib.hid (show decide (u ∈ keepA now (s.M.take (k + 1))) = E by
              rw [HTK1.out, hE, Bool.eq_iff_iff, decide_eq_true_iff, decide_eq_true_iff, List.mem_append, List.mem_singleton]
              have := of_decide_eq_false hkn
              exact ⟨fun h => (h.resolve_left this).symm, fun h => Or.inr h.symm⟩)
            have HEQ := Lib.hid (show ∀ w, (binOp .eql 35 (.agg (auC y).toArray) (.agg (auC u).toArray)).run Try.prog w = .ok (.bool E) w from fun w => by rw [run_eql_struct, run_eqAu y u HYW.out HUW.out w, hE]; rfl)
            have HLT := Lib.hid hlt
            clear hkn hE
            go_wp2_with (first
              | (go_at_call 19; refine (above_keep now y.2.1 _ IN.out HYI.out).mono ?_; rintro e w1 ⟨rfl, rfl⟩; rw [HFY.out])
              | refine wpList_loadX (p := auC y) aggA rfl (.tmp 61) rfl (b := ab) (off := ao + k * 19) HCE2.out (auC_len HYW.out) (by first | rfl | go_simp) ?_
              | refine wpList_lit1 Try.underlying28 aggA.hi zeroA_run (auC_len HYW.out) (by omega) (by omega) rfl (.tmp 62) rfl (by first | rfl | go_simp) ?_
              | (refine wpList_appX rowA rfl (.tmp 55) (.tmp 63) rfl (b := wr.heap.size) (off := 0) (c := 1) HRL.out HLC.out (auC_len HYW.out) (auC_one y) (by first | rfl | go_simp) (by first | rfl | go_simp) HKL.out HBS.out ?_; intro vl2 w3 hrow3 hgr3 hat3; have ROW3 := Lib.hid hrow3; have B3 := Lib.hid ((HBM.out.alloc _).row_ hgr3 HVM.out); have A3 := Lib.hid ((HBA.out.alloc _).row_ hgr3 HVA.out); have W3 := Lib.hid (none_row (grown_trans' HW.out (grown_alloc wr _ none)) hgr3 HVW.out); clear hrow3 hgr3 hat3))
            rw [HMA.out] at ROW3
            clear q0 qT
            refine region_byT (n := 13) (ds := [some 65, some 66, some 67, some 68, some 69, some 70, some 71, some 72, some 73, some 74, some 75, some 76, some 8]) (fun _ x y => x = y) (fun _ x => CB x m 30 [.slice (some ⟨ab, ao, none⟩) n cap, .bool s.cl, .int .i64 s.beg] ∧ CB x w.heap.size 35 (auC u) ∧ w3.grownBy x none) (RymF m ab ao n cap k y u E) (by kernel_rfl) (by kernel_rfl) rfl (by kernel_rfl) (fun i j v x z _ _ hT hF => by rw [← hT]; exact hF) ⟨B3.out, A3.out, grown_drew (World.grownBy.refl w3 none)⟩ ⟨⟨⟨⟨⟨⟨⟨⟨⟨⟨⟨⟨⟨trivial, ?_⟩, ?_⟩, ?_⟩, ?_⟩, ?_⟩, ?_⟩, ?_⟩, ?_⟩, ?_⟩, ?_⟩, ?_⟩, ?_⟩, ?_⟩ ?_
            · refine Inv.dutyT_plain rfl rfl (fun L vs a x l0 hG dep up val ev out K hK => ?_)
              have e8 : a.eval (.tmp 8) = .bool false := (out 8 (Inv.ne_of_late (J := 12) (i := 0) (n := 95) (by kernel_rfl) (by kernel_rfl) l0 up (by kernel_rfl))).trans rfl
              refine Inv.wp_value (v := .bool false) ?_ (hK.out _ _ rfl (hG) rfl)
              clear hG hK K dep up val ev out l0
              generalize a.eval = ρ at *
              (simp [execOp, go_sem, *]; done)
            · refine Inv.dutyT_plain rfl rfl (fun L vs a x l0 hG dep up val ev out K hK => ?_)
              have L65 := dep 0 (by kernel_rfl)
              have e65 : a.eval (.tmp 65) = .bool false := (ev 0 65 L65 (by kernel_rfl)).trans (val 0 L65)
              refine Inv.wp_value (v := .bool false) ?_ (hK.out _ _ rfl (hG) rfl)
              clear hG hK K dep up val ev out l0
              generalize a.eval = ρ at *
              (simp [execOp, go_sem, *]; done)
            · refine Inv.dutyT_if rfl rfl rfl (by kernel_rfl) (fun v w h => h) (fun L vs a x l0 hG dep up val ev out K hK => ?_)
              have e0 : a.eval (.tmp 0) = .pointer (some ⟨m, 0, none⟩) := (out 0 (Inv.ne_of_outB (by kernel_rfl))).trans rfl
              refine Inv.wp_value (v := .pointer (some ⟨m, 0, none⟩)) ?_ (hK.out _ _ rfl (hG) rfl)
              clear hG hK K dep up val ev out l0
              generalize a.eval = ρ at *
              (simp [execOp, go_sem, *]; done)
            · refine Inv.dutyT_if rfl rfl rfl (by kernel_rfl) (fun v w h => h) (fun L vs a x l0 hG dep up val ev out K hK => ?_)
              have L67 := dep 2 (by kernel_rfl)
              have e67 : a.eval (.tmp 67) = .pointer (some ⟨m, 0, none⟩) := (ev 2 67 L67 (by kernel_rfl)).trans (val 2 L67)
              refine Inv.wp_value (v := .pointer (some ⟨m, 0, none⟩)) ?_ (hK.out _ _ rfl (hG) rfl)
              clear hG hK K dep up val ev out l0
              generalize a.eval = ρ at *
              (simp [execOp, go_sem, *]; done)
            · refine Inv.dutyT_if rfl rfl rfl (by kernel_rfl) (fun v w h => h) (fun L vs a x l0 hG dep up val ev out K hK => ?_)
              have L68 := dep 3 (by kernel_rfl)
              have e68 : a.eval (.tmp 68) = .pointer (some ⟨m, 0, none⟩) := (ev 3 68 L68 (by kernel_rfl)).trans (val 3 L68)
              refine Inv.wp_value (v := .pointer (some ⟨m, 0, none⟩)) ?_ (hK.out _ _ rfl (hG) rfl)
              clear hG hK K dep up val ev out l0
              generalize a.eval = ρ at *
              (simp [execOp, go_sem, *]; done)
            · refine Inv.dutyT_if rfl rfl rfl (by kernel_rfl) (fun v w h => h) (fun L vs a x l0 hG dep up val ev out K hK => ?_)
              have L69 := dep 4 (by kernel_rfl)
              have e69 : a.eval (.tmp 69) = .pointer (some ⟨m, 0, none⟩) := (ev 4 69 L69 (by kernel_rfl)).trans (val 4 L69)
              have q0 : x.cell? ⟨m, 0, none⟩ = some (.slice (some ⟨ab, ao, none⟩) n cap) := hG.1.at_ rfl
              refine Inv.wp_value (v := .slice (some ⟨ab, ao, none⟩) n cap) ?_ (hK.out _ _ rfl hG rfl)
              clear hG hK K dep up val ev out l0
              generalize a.eval = ρ at *
              (simp [execOp, go_sem, *]; done)
            · refine Inv.dutyT_if rfl rfl rfl (by kernel_rfl) (fun v w h => h) (fun L vs a x l0 hG dep up val ev out K hK => ?_)
              have e9 : a.eval (.tmp 9) = .int .i64 (k : Int) := (out 9 (Inv.ne_of_outB (by kernel_rfl))).trans rfl
              refine Inv.wp_value (v := .int .i64 (k : Int)) ?_ (hK.out _ _ rfl (hG) rfl)
              clear hG hK K dep up val ev out l0
              generalize a.eval = ρ at *
              (simp [execOp, go_sem, *]; done)
            · refine Inv.dutyT_if rfl rfl rfl (by kernel_rfl) (fun v w h => h) (fun L vs a x l0 hG dep up val ev out K hK => ?_)
              have L70 := dep 5 (by kernel_rfl)
              have e70 : a.eval (.tmp 70) = .slice (some ⟨ab, ao, none⟩) n cap := (ev 5 70 L70 (by kernel_rfl)).trans (val 5 L70)
              have L71 := dep 6 (by kernel_rfl)
              have e71 : a.eval (.tmp 71) = .int .i64 (k : Int) := (ev 6 71 L71 (by kernel_rfl)).trans (val 6 L71)
              have hlt := HLT.out
              have hlt2 : (k : Int) < (n : Int) := by omega
              refine Inv.wp_value (v := .pointer (some ⟨ab, ao + k * 19, none⟩)) ?_ (hK.out _ _ rfl hG rfl)
              clear hG hK K dep up val ev out l0
              generalize a.eval = ρ at *
              (simp [execOp, go_sem, *]; done)
            · refine Inv.dutyT_if rfl rfl rfl (by kernel_rfl) (fun v w h => h) (fun L vs a x l0 hG dep up val ev out K hK => ?_)
              have L72 := dep 7 (by kernel_rfl)
              have e72 : a.eval (.tmp 72) = .pointer (some ⟨ab, ao + k * 19, none⟩) := (ev 7 72 L72 (by kernel_rfl)).trans (val 7 L72)
              exact wp_loadX aggA (.tmp 72) rfl (b := ab) (off := ao + k * 19) (fun j v hj => ((below_of_none (grown_trans' W3.out hG.2.2)).cell (p := ⟨ab, _, none⟩) HAB.out).trans (by have := HC0.out j v hj; rwa [Nat.mul_comm 19 k] at this)) (auC_len HYW.out) e72 (hK.out _ _ rfl hG rfl)
            · refine Inv.dutyT_if rfl rfl rfl (by kernel_rfl) (fun v w h => h) (fun L vs a x l0 hG dep up val ev out K hK => ?_)
              have e4 : a.eval (.tmp 4) = .pointer (some ⟨w.heap.size, 0, none⟩) := (out 4 (Inv.ne_of_outB (by kernel_rfl))).trans rfl
              exact wp_loadC aggA (.tmp 4) rfl hG.2.1 (take_all (auC_length HOA.out)) (by rw [auC_length HOA.out]; omega) e4 (hK.out _ _ rfl hG rfl)
            · refine Inv.dutyT_if rfl rfl rfl (by kernel_rfl) (fun v w h => h) (fun L vs a x l0 hG dep up val ev out K hK => ?_)
              have L73 := dep 8 (by kernel_rfl)
              have e73 : a.eval (.tmp 73) = .agg (auC y).toArray := (ev 8 73 L73 (by kernel_rfl)).trans (val 8 L73)
              have L74 := dep 9 (by kernel_rfl)
              have e74 : a.eval (.tmp 74) = .agg (auC u).toArray := (ev 9 74 L74 (by kernel_rfl)).trans (val 9 L74)
              exact wp_eqV (by kernel_rfl) (.tmp 73) (.tmp 74) rfl e73 e74 HEQ.out (hK.out _ _ rfl hG rfl)
            · refine Inv.dutyT_plain rfl rfl (fun L vs a x l0 hG dep up val ev out K hK => ?_)
              have ek : ∀ u, a.eval (.const u) = u := fun _ => rfl
              have L66 := dep 1 (by kernel_rfl)
              have e66 : a.eval (.tmp 66) = .bool false := (ev 1 66 L66 (by kernel_rfl)).trans (val 1 L66)
              have L75 := dep 10 (by kernel_rfl)
              have e75 : a.eval (.tmp 75) = .bool E := (ev 10 75 L75 (by kernel_rfl)).trans (val 10 L75)
              refine Inv.wp_value (v := .bool E) ?_ (hK.out _ _ rfl (hG) rfl)
              clear hG hK K dep up val ev out l0
              generalize a.eval = ρ at *
              (simp [execOp, go_sem, *]; done)
            · refine Inv.dutyT_plain rfl rfl (fun L vs a x l0 hG dep up val ev out K hK => ?_)
              have L76 := dep 11 (by kernel_rfl)
              have e76 : a.eval (.tmp 76) = .bool E := (ev 11 76 L76 (by kernel_rfl)).trans (val 11 L76)
              refine Inv.wp_value (v := .bool E) ?_ (hK.out _ _ rfl (hG) rfl)
              clear hG hK K dep up val ev out l0
              generalize a.eval = ρ at *
              (simp [execOp, go_sem, *]; done)
            intro vs L4 w4 hL4 hG hv
            have hZ : vs 12 = .bool E := hv 12 (by omega)
            simp only [Inv.putAll, Act.put, List.setIfInBounds_toArray, List.set_cons_zero, List.set_cons_succ, Nat.zero_add, Nat.reduceAdd]
            rw [hZ]
            clear hv hZ
            have W4 := Lib.hid hG.2.2
            clear hG
            have B4 := Lib.hid (B3.out.kept W4.out)
            have A4 := Lib.hid (A3.out.kept W4.out)
            have R4 := Lib.hid (ROW3.out.none W4.out)
            have G4 := Lib.hid (grown_trans' W3.out W4.out)
            go_wp2
            go_roundw
            case rel => exact ⟨k + 1, by omega, by go_num, B4.out, R4.out, A4.out, by rw [HKN.out], G4.out⟩
            case measure => simp [intOf]; omega
      · have hdone := hlt
        have hkn : k = n := by omega
        subst hkn
        have htk : s.M.take k = s.M := List.take_of_length_le (by rw [HN.out]; exact Nat.le_refl _)
        obtain ⟨K1, hK1⟩ : ∃ K1, K1 = keepA now s.M := ⟨_, rfl⟩
        rw [htk, ← hK1] at hRL
        rw [htk, ← hK1]
        have HK1 := Lib.hid hK1
        have HLN := Lib.hid (show K1.length ≤ 1000000 by rw [hK1]; exact Nat.le_trans (List.length_filter_le _ _) (by rw [HN.out]; omega))
        obtain ⟨A2, cap2, hv2, _, _⟩ := hRL.shape
        subst hv2
        rw [List.length_map] at hRL
        rw [List.length_map]
        obtain ⟨n2, hn2⟩ : ∃ n2, n2 = K1.length := ⟨_, rfl⟩
        rw [← hn2] at hRL
        rw [← hn2]
        have HN2 := Lib.hid hn2
        have HVM := Lib.hid (row_ne hRL (g := m) (by have := HML.out; omega))
        have HVA := Lib.hid (row_ne hRL (g := w.heap.size) (by omega))
        have HVW := Lib.hid (fun g hg => Nat.le_of_lt (hRL.lt g hg).1)
        have HR5 := Lib.hid hRL
        obtain ⟨s1, hs1⟩ : ∃ s1 : St, s1 = ⟨K1, s.cl, s.beg⟩ := ⟨_, rfl⟩
        have HSM := Lib.hid (show s1.M = K1 by rw [hs1])
        have HSC := Lib.hid (show s1.cl = s.cl by rw [hs1])
        have HSB := Lib.hid (show s1.beg = s.beg by rw [hs1])
        have hr := HR.out
        rw [← hK1, ← hs1] at hr
        have HOK1 := Lib.hid (show ∀ x ∈ K1, auOk x from fun x hx => HOKS.out x (keepA_sub (by rw [← hK1]; exact hx)))
        have HS1E := Lib.hid hs1
        clear hBM hRL hBA hW htk hK1 hn2 hs1
        by_cases hin : u ∈ K1
        · rw [if_pos hin] at hr
          have HR2 := Lib.hid hr
          rw [decide_eq_true hin]
          clear hin hr
          go_wp2_with (refine wpList_storeC (off := 0) (p := [.slice A2 n2 cap2]) sizeSl rfl (.tmp 80) (.tmp 78) rfl (.slice A2 n2 cap2) rfl (fun x hx => by rw [List.mem_singleton.1 hx]; rfl) HBM.out rfl (by simp) (by first | rfl | go_simp) (by first | rfl | go_simp) ?_; intro w6 h6 g6)
          go_ret
          rw [HR2.out]
          exact ⟨rfl, ⟨⟨_, by rw [HSC.out, HSB.out]; exact h6, by rw [HSM.out]; exact (HR5.out.row g6 (fun e => HVM.out _ e rfl)).base_ (Nat.zero_le _)⟩, by rw [HSB.out]; exact HBE.out, by rw [HSM.out]; exact HOK1.out⟩, grown_trans' (grown_some HW.out m) g6⟩
        · rw [if_neg hin] at hr
          rw [decide_eq_false hin]
          clear hin
          by_cases h16 : 16 ≤ n2
          · rw [if_pos (by rw [← HN2.out]; exact h16)] at hr
            have HR2 := Lib.hid hr
            have d1 : decide ((16 : Int) ≤ (n2 : Int)) = true := decide_eq_true (by omega)
            clear h16 hr
            go_wp2_with (refine wpList_storeC (off := 0) (p := [.slice A2 n2 cap2]) sizeSl rfl (.tmp 80) (.tmp 78) rfl (.slice A2 n2 cap2) rfl (fun x hx => by rw [List.mem_singleton.1 hx]; rfl) HBM.out rfl (by simp) (by first | rfl | go_simp) (by first | rfl | go_simp) ?_; intro w6 h6 g6)
            go_ret
            rw [HR2.out]
            exact ⟨rfl, ⟨⟨_, by rw [HSC.out, HSB.out]; exact h6, by rw [HSM.out]; exact (HR5.out.row g6 (fun e => HVM.out _ e rfl)).base_ (Nat.zero_le _)⟩, by rw [HSB.out]; exact HBE.out, by rw [HSM.out]; exact HOK1.out⟩, grown_trans' (grown_some HW.out m) g6⟩
          · rw [if_neg (by rw [← HN2.out]; exact h16)] at hr
            have HR2 := Lib.hid hr
            have d1 : decide ((16 : Int) ≤ (n2 : Int)) = false := decide_eq_false (by omega)
            have HMG := Lib.hid (show w.heap.size ≠ m by have := HML.out; omega)
            clear h16 hr
            go_wp2_with (refine wpList_storeC (off := 0) (p := [.slice A2 n2 cap2]) sizeSl rfl (.tmp 80) (.tmp 78) rfl (.slice A2 n2 cap2) rfl (fun x hx => by rw [List.mem_singleton.1 hx]; rfl) HBM.out rfl (by simp) (by first | rfl | go_simp) (by first | rfl | go_simp) ?_; intro w6 h6 g6; have B6 := Lib.hid (show CB w6 m 30 [.slice A2 n2 cap2, .bool s1.cl, .int .i64 s1.beg] by rw [HSC.out, HSB.out]; exact h6); have R6 := Lib.hid (show RowX w6 0 35 19 (.slice A2 n2 cap2) (s1.M.map auC) by rw [HSM.out]; exact (HR5.out.row g6 (fun e => HVM.out _ e rfl)).base_ (Nat.zero_le _)); have A6 := Lib.hid (HBA.out.grown g6 HMG.out); have G6 := Lib.hid (grown_trans' (grown_some HW.out m) g6); clear h6 g6 q0)
            have HLN2 := Lib.hid (show s1.M.length ≤ 1000000 by rw [HSM.out]; exact HLN.out)
            clear HLN
            have HLN := Lib.hid HLN2.out
            generalize hg4 : w.heap.size = g4 at HVA A6 HMG
            clear hg4
            go_wp2
            refine region_byT (n := 11) (ds := [some 85, some 86, some 87, some 88, some 89, some 90, some 91, some 92, some 93, some 94, none]) (RymT7 m (.slice A2 n2 cap2)) (RymG w m g4 s1 (.slice A2 n2 cap2) u) (RymF7 m s1 (.slice A2 n2 cap2) u) (by kernel_rfl) (by kernel_rfl) rfl (by kernel_rfl) (fun i j v x y hji haf hT hF => RymF7.kept i j v x y hji hT hF (fun e1 e2 => by subst e1 e2; exact absurd haf (by rw [show Inv.afterB _ 7 6 = true by kernel_rfl]; simp)) (fun e1 e2 => by subst e1 e2; exact absurd haf (by rw [show Inv.afterB _ 10 6 = true by kernel_rfl]; simp)) (fun e1 e2 => by subst e1 e2; exact absurd haf (by rw [show Inv.afterB _ 10 7 = true by kernel_rfl]; simp))) ⟨(fun _ => B6.out), (fun _ => R6.out), A6.out, grown_drew G6.out⟩ ⟨⟨⟨⟨⟨⟨⟨⟨⟨⟨⟨trivial, ?_⟩, ?_⟩, ?_⟩, ?_⟩, ?_⟩, ?_⟩, ?_⟩, ?_⟩, ?_⟩, ?_⟩, ?_⟩ ?_
            · refine Inv.dutyT_plain rfl rfl (fun L vs a x l0 hG dep up val ev out K hK => ?_)
              have e0 : a.eval (.tmp 0) = .pointer (some ⟨m, 0, none⟩) := (out 0 (Inv.ne_of_outB (by kernel_rfl))).trans rfl
              refine Inv.wp_value (v := .pointer (some ⟨m, 0, none⟩)) ?_ (hK.out _ _ rfl (RymG.more (i := 0) (by omega) (by omega) hG) rfl)
              clear hG hK K dep up val ev out l0
              generalize a.eval = ρ at *
              (simp [execOp, go_sem, *]; done)
            · refine Inv.dutyT_plain rfl rfl (fun L vs a x l0 hG dep up val ev out K hK => ?_)
              have e0 : a.eval (.tmp 0) = .pointer (some ⟨m, 0, none⟩) := (out 0 (Inv.ne_of_outB (by kernel_rfl))).trans rfl
              refine Inv.wp_value (v := .pointer (some ⟨m, 0, none⟩)) ?_ (hK.out _ _ rfl (RymG.more (i := 1) (by omega) (by omega) hG) rfl)
              clear hG hK K dep up val ev out l0
              generalize a.eval = ρ at *
              (simp [execOp, go_sem, *]; done)
            · refine Inv.dutyT_plain rfl rfl (fun L vs a x l0 hG dep up val ev out K hK => ?_)
              have L86 := dep 1 (by kernel_rfl)
              have e86 : a.eval (.tmp 86) = .pointer (some ⟨m, 0, none⟩) := (ev 1 86 L86 (by kernel_rfl)).trans (val 1 L86)
              refine Inv.wp_value (v := .pointer (some ⟨m, 0, none⟩)) ?_ (hK.out _ _ rfl (RymG.more (i := 2) (by omega) (by omega) hG) rfl)
              clear hG hK K dep up val ev out l0
              generalize a.eval = ρ at *
              (simp [execOp, go_sem, *]; done)
            · refine Inv.dutyT_plain rfl rfl (fun L vs a x l0 hG dep up val ev out K hK => ?_)
              have L87 := dep 2 (by kernel_rfl)
              have e87 : a.eval (.tmp 87) = .pointer (some ⟨m, 0, none⟩) := (ev 2 87 L87 (by kernel_rfl)).trans (val 2 L87)
              refine Inv.wp_value (v := .pointer (some ⟨m, 0, none⟩)) ?_ (hK.out _ _ rfl (RymG.more (i := 3) (by omega) (by omega) hG) rfl)
              clear hG hK K dep up val ev out l0
              generalize a.eval = ρ at *
              (simp [execOp, go_sem, *]; done)
            · refine Inv.dutyT_plain rfl rfl (fun L vs a x l0 hG dep up val ev out K hK => ?_)
              have L88 := dep 3 (by kernel_rfl)
              have e88 : a.eval (.tmp 88) = .pointer (some ⟨m, 0, none⟩) := (ev 3 88 L88 (by kernel_rfl)).trans (val 3 L88)
              have q0 : x.cell? ⟨m, 0, none⟩ = some (Value.slice A2 n2 cap2) := (hG.1 (RymG.no l0 up (show Inv.afterB _ 10 4 = true by kernel_rfl))).at_ rfl
              refine Inv.wp_value (v := Value.slice A2 n2 cap2) ?_ (hK.out _ _ rfl (RymG.more (i := 4) (by omega) (by omega) hG) rfl)
              clear hG hK K dep up val ev out l0
              generalize a.eval = ρ at *
              (simp [execOp, go_sem, *]; done)
            · refine Inv.dutyT_plain rfl rfl (fun L vs a x l0 hG dep up val ev out K hK => ?_)
              have e4 : a.eval (.tmp 4) = .pointer (some ⟨g4, 0, none⟩) := (out 4 (Inv.ne_of_outB (by kernel_rfl))).trans rfl
              exact wp_loadC aggA (.tmp 4) rfl hG.2.2.1 (take_all (auC_length HOA.out)) (by rw [auC_length HOA.out]; omega) e4 (hK.out _ _ rfl (RymG.more (i := 5) (by omega) (by omega) hG) rfl)
            · refine Inv.dutyT_plain rfl rfl (fun L vs a x l0 hG dep up val ev out K hK => ?_)
              have L90 := dep 5 (by kernel_rfl)
              have e90 : a.eval (.tmp 90) = .agg (auC u).toArray := (ev 5 90 L90 (by kernel_rfl)).trans (val 5 L90)
              have hrow := hG.2.1 (RymG.no l0 up (show Inv.afterB _ 7 6 = true by kernel_rfl))
              have hsz := hG.2.2.2.size
              exact wp_lit1 Try.underlying28 aggA.hi zeroA_run (auC_length HOA.out) (by omega) (by omega) (.tmp 90) rfl e90 (hK.out _ _ (grown_alloc x _ none) (RymG.made (i := 6) (by omega) (by omega) (grown_alloc x _ none) hG) ⟨x.heap.size, rfl, CB.new x _ _, (fun e => by have := HML.out; omega), (fun e => by have := (hrow.lt _ e).2; omega)⟩)
            · refine Inv.dutyT_plain rfl rfl (fun L vs a x l0 hG dep up val ev out K hK => ?_)
              have L89 := dep 4 (by kernel_rfl)
              have e89 : a.eval (.tmp 89) = .slice A2 n2 cap2 := (ev 4 89 L89 (by kernel_rfl)).trans (val 4 L89)
              have L91 := dep 6 (by kernel_rfl)
              have e91 := ev 6 91 L91 (by kernel_rfl)
              have f91 := val 6 L91
              obtain ⟨g6, hv6, hc6, hn6, hr6⟩ := f91
              refine wp_appX rowA (.tmp 89) (.tmp 91) rfl (b := g6) (off := 0) (c := 1) (hG.2.1 l0) (fun j v hj => by have := hc6.at_ hj; rwa [Nat.zero_add]) (auC_length HOA.out) (auC_one u) e89 (e91.trans hv6) (by rw [List.length_map]; have := HLN.out; omega) (Nat.zero_le _) (fun v' w' hrow hgr hat => ?_)
              have hsz := hG.2.2.2.size
              refine hK.out _ _ hgr (RymG.app HVM.out HVA.out HVW.out (by omega) hgr hG) ⟨hrow, ?_⟩
              rcases hat with h | h
              · rw [h]; exact fun e => HVM.out _ e rfl
              · rw [h]; intro e; have := HML.out; injection e with e; omega
            · refine Inv.dutyT_plain rfl rfl (fun L vs a x l0 hG dep up val ev out K hK => ?_)
              have L85 := dep 0 (by kernel_rfl)
              have e85 : a.eval (.tmp 85) = .pointer (some ⟨m, 0, none⟩) := (ev 0 85 L85 (by kernel_rfl)).trans (val 0 L85)
              refine Inv.wp_value (v := .pointer (some ⟨m, 0, none⟩)) ?_ (hK.out _ _ rfl (RymG.more (i := 8) (by omega) (by omega) hG) rfl)
              clear hG hK K dep up val ev out l0
              generalize a.eval = ρ at *
              (simp [execOp, go_sem, *]; done)
            · refine Inv.dutyT_plain rfl rfl (fun L vs a x l0 hG dep up val ev out K hK => ?_)
              have L93 := dep 8 (by kernel_rfl)
              have e93 : a.eval (.tmp 93) = .pointer (some ⟨m, 0, none⟩) := (ev 8 93 L93 (by kernel_rfl)).trans (val 8 L93)
              refine Inv.wp_value (v := .pointer (some ⟨m, 0, none⟩)) ?_ (hK.out _ _ rfl (RymG.more (i := 9) (by omega) (by omega) hG) rfl)
              clear hG hK K dep up val ev out l0
              generalize a.eval = ρ at *
              (simp [execOp, go_sem, *]; done)
            · refine Inv.dutyT_plain rfl rfl (fun L vs a x l0 hG dep up val ev out K hK => ?_)
              have L92 := dep 7 (by kernel_rfl)
              have e92 := ev 7 92 L92 (by kernel_rfl)
              have f92 := val 7 L92
              have L94 := dep 9 (by kernel_rfl)
              have e94 : a.eval (.tmp 94) = .pointer (some ⟨m, 0, none⟩) := (ev 9 94 L94 (by kernel_rfl)).trans (val 9 L94)
              obtain ⟨A9, c9, hv9, _, _⟩ := f92.1.shape
              exact wp_storeC (off := 0) (p := [vs 7]) sizeSl (.tmp 94) (.tmp 92) rfl (vs 7) (by rw [hv9]; rfl) (fun z hz => by rw [List.mem_singleton.1 hz, hv9]; rfl) (hG.1 l0) rfl (by simp) e94 e92 (fun w' h2 g2 => hK.out _ _ g2 (RymG.done HMG.out L92 g2 hG) ⟨vs 7, h2, f92.1.row g2 f92.2⟩)
            intro vs L w7 hl hG hv
            obtain ⟨v9, hc9, hr9⟩ := hv 10 (by omega)
            have G7 := Lib.hid hG.2.2.2
            have C9 := Lib.hid hc9
            have R9 := Lib.hid hr9
            clear hv hG hl hc9 hr9
            simp only [Inv.putAll, Act.put, List.setIfInBounds_toArray, List.set_cons_zero, List.set_cons_succ, Nat.zero_add, Nat.reduceAdd]
            go_wp2
            go_ret
            rw [HR2.out]
            have hok : ∀ x ∈ K1 ++ [u], auOk x := by
              intro x hx
              rcases List.mem_append.1 hx with hx | hx
              · exact HOK1.out x hx
              · rw [List.mem_singleton.1 hx]; exact HOA.out
            have h9 := R9.out
            have c9 := C9.out
            rw [HSM.out, show [auC u] = [u].map auC from rfl, ← List.map_append] at h9
            rw [HSC.out, HSB.out] at c9
            exact ⟨rfl, ⟨⟨v9, c9, h9⟩, HBE.out, hok⟩, G7.out⟩
  · rw [hc] at p1
    have HA := Lib.hid (show ∀ W, Calls Try.prog 19 #[.int .i64 u.2.1, .int .i64 s.beg] W fun e w' => e = .returned (.bool true) ∧ w' = W from fun W => (above_any u.2.1 s.beg W IU.out HBE.out).mono fun e w' h => by rw [hb] at h; exact h)
    clear hc hb
    go_enter Try.func13, Try.ntmps13
    go_wp2_with (first
    | (go_at_call 19; have hx := TK0; clear hx; refine (above_any u.2.1 now _ IU.out IN.out).mono ?_; rintro e w1 ⟨rfl, rfl⟩; rw [H1.out]; clear TK0)
    | (go_at_call 19; refine (above_any now u.2.1 _ IN.out IU.out).mono ?_; rintro e w1 ⟨rfl, rfl⟩; rw [H2.out]))
    go_quiet ((go_at_call 19; with_reducible exact Calls.quiet_of_same (HA.out _)))
    have BZ := Lib.hid (B0.out.kept (grown_drewN _ nq none))
    have AZ := Lib.hid (A0.out.kept (grown_drewN _ nq none))
    have GZ := Lib.hid (grown_trans' HG0.out (grown_drewN _ nq none))
    have ZZ := Lib.hid (show (World.drewN (w.alloc (.cells (auC u).toArray 35)) nq).heap.size = w.heap.size + 1 from World.size_alloc w _)
    clear p1 p2 q1
    generalize World.drewN (w.alloc (.cells (auC u).toArray 35)) nq = wz at *
    have HB5 := Lib.hid (BZ.out.alloc (.cells #[] 35))
    have HA5 := Lib.hid (AZ.out.alloc (.cells #[] 35))
    have HR5 := Lib.hid (RowX.new0 wz (w.heap.size + 1) 35 19 (by rw [ZZ.out]; exact Nat.le_refl _))
    have HW5 := Lib.hid (grown_trans' GZ.out (grown_alloc wz (.cells #[] 35) none))
    go_wp2
    go_loopw [7, 8, 9] (fun vl kn i wr => ∃ k : Nat, k ≤ n ∧ i = .int .i64 k ∧ RelN w m s u now (.slice A n cap) k vl kn wr) (fun _ _ i _ => n - (intOf i).toNat)
    case atStart => exact ⟨0, Nat.zero_le _, rfl, HB5.out, HR5.out, HA5.out, by simp [keepA], HW5.out⟩
    case round =>
      obtain ⟨k, hk, rfl, hBM, hRL, hBA, rfl, hW⟩ := hrel
      have HBM := Lib.hid hBM
      have HBA := Lib.hid hBA
      have HW := Lib.hid hW
      have HRL0 := Lib.hid hRL
      have q0 : wr.cell? ⟨m, 0, none⟩ = some (.slice A n cap) := hBM.at_ rfl
      have hn0 := HNM.out
      by_cases hlt : k < n
      · obtain ⟨y, hy⟩ : ∃ y, y = s.M[k]'(by rw [HN.out]; exact hlt) := ⟨_, rfl⟩
        obtain ⟨ab, ao, hAe, hab, hcells⟩ := HSR.out.elem (k := k) (by rw [List.length_map, HN.out]; exact hlt)
        have HYO := Lib.hid (show auOk y by rw [hy]; exact HOKS.out _ (List.getElem_mem _))
        have HYW := Lib.hid (show auW y from ⟨HYO.out.lk, HYO.out.ti, HYO.out.no⟩)
        have HYI := Lib.hid HYO.out.ti
        have hce : (s.M.map auC)[k]'(by rw [List.length_map, HN.out]; exact hlt) = auC y := by rw [List.getElem_map, hy]
        rw [hce] at hcells
        have HC0 := Lib.hid hcells
        have HCELL := Lib.hid (show ∀ j v, (auC y)[j]? = some v → wr.cell? ⟨ab, ao + 19 * k + j, none⟩ = some v from fun j v hj => ((below_of_none HW.out).cell (p := ⟨ab, _, none⟩) hab).trans (hcells j v hj))
        have HCE2 := Lib.hid (show ∀ j v, (auC y)[j]? = some v → wr.cell? ⟨ab, ao + k * 19 + j, none⟩ = some v from fun j v hj => by rw [Nat.mul_comm k 19]; exact HCELL.out j v hj)
        have HTK := Lib.hid (keep_take now (k := k) (M := s.M) (y := y) (by rw [HN.out]; exact hlt) hy)
        have qT : wr.cell? ⟨ab, ao + k * 19 + 1, none⟩ = some (.int .i64 y.2.1) := HCE2.out 1 _ (auC_ti y)
        have HAB := Lib.hid hab
        subst hAe
        clear hBM hRL hBA hW hcells hce hy hab
        cases hfy : far now y.2.1 with
        | true =>
          have HFY := Lib.hid hfy
          have HTK1 := Lib.hid (show keepA now (s.M.take (k + 1)) = keepA now (s.M.take k) by rw [HTK.out, hfy]; simp)
          clear hfy
          go_wp2_with (go_at_call 19; refine (above_keep now y.2.1 _ IN.out HYI.out).mono ?_; rintro e w1 ⟨rfl, rfl⟩; rw [HFY.out])
          go_roundw
          case rel => exact ⟨k + 1, by omega, by go_num, HBM.out, by rw [HTK1.out]; exact HRL0.out, HBA.out, by rw [HTK1.out], HW.out⟩
          case measure => simp [intOf]; omega
        | false =>
          have HFY := Lib.hid hfy
          have HTK1 := Lib.hid (show keepA now (s.M.take (k + 1)) = keepA now (s.M.take k) ++ [y] by rw [HTK.out, hfy]; simp)
          have HVM := Lib.hid (row_ne HRL0.out (g := m) (by have := HML.out; omega))
          have HVA := Lib.hid (row_ne HRL0.out (g := w.heap.size) (by omega))
          have HVW := Lib.hid (fun g hg => Nat.le_of_lt (HRL0.out.lt g hg).1)
          have HRL := Lib.hid (HRL0.out.none (grown_alloc wr (.cells (auC y).toArray 35) none))
          have HLC := Lib.hid (show ∀ j v, (auC y)[j]? = some v → (wr.alloc (.cells (auC y).toArray 35)).cell? ⟨wr.heap.size, 0 + j, none⟩ = some v from fun j v hj => by rw [Nat.zero_add]; exact (CB.new wr 35 (auC y)).at_ hj)
          have HKL := Lib.hid (show ((keepA now (s.M.take k)).map auC).length ≤ 1000000000 by rw [List.length_map]; exact Nat.le_trans (List.length_filter_le _ _) (Nat.le_trans (List.length_take_le' _ _) (by rw [HN.out]; omega)))
          have HBS := Lib.hid (show w.heap.size + 1 ≤ (wr.alloc (.cells (auC y).toArray 35)).heap.size by have h1 := HBA.out.lt; rw [World.size_alloc]; omega)
          have HMA := Lib.hid (show (keepA now (s.M.take k)).map auC ++ [auC y] = (keepA now (s.M.take (k + 1))).map auC by rw [HTK1.out, List.map_append]; rfl)
          clear hfy
          cases hkn : decide (u ∈ keepA now (s.M.take k)) with
          | true =>
            have HKN := Lib.hid (show decide (u ∈ keepA now (s.M.take (k + 1))) = true by rw [HTK1.out]; exact decide_eq_true (List.mem_append_left _ (of_decide_eq_true hkn)))
            clear hkn
            go_wp2_with (first
              | (go_at_call 19; refine (above_keep now y.2.1 _ IN.out HYI.out).mono ?_; rintro e w1 ⟨rfl, rfl⟩; rw [HFY.out])
              | refine wpList_loadX (p := auC y) aggA rfl (.tmp 61) rfl (b := ab) (off := ao + k * 19) HCE2.out (auC_len HYW.out) (by first | rfl | go_simp) ?_
              | refine wpList_lit1 Try.underlying28 aggA.hi zeroA_run (auC_len HYW.out) (by omega) (by omega) rfl (.tmp 62) rfl (by first | rfl | go_simp) ?_
              | (refine wpList_appX rowA rfl (.tmp 55) (.tmp 63) rfl (b := wr.heap.size) (off := 0) (c := 1) HRL.out HLC.out (auC_len HYW.out) (auC_one y) (by first | rfl | go_simp) (by first | rfl | go_simp) HKL.out HBS.out ?_; intro vl2 w3 hrow3 hgr3 hat3; have ROW3 := Lib.hid hrow3; have B3 := Lib.hid ((HBM.out.alloc _).row_ hgr3 HVM.out); have A3 := Lib.hid ((HBA.out.alloc _).row_ hgr3 HVA.out); have W3 := Lib.hid (none_row (grown_trans' HW.out (grown_alloc wr _ none)) hgr3 HVW.out); clear hrow3 hgr3 hat3))
            rw [HMA.out] at ROW3
            clear q0 qT
            refine region_byT (n := 13) (ds := [some 65, some 66, some 67, some 68, some 69, some 70, some 71, some 72, some 73, some 74, some 75, some 76, some 8]) (fun _ x y => x = y) (fun _ x => w3.grownBy x none) (RymFT) (by kernel_rfl) (by kernel_rfl) rfl (by kernel_rfl) (fun i j v x y _ _ hT hF => by rw [← hT]; exact hF) (grown_drew (World.grownBy.refl w3 none)) ⟨⟨⟨⟨⟨⟨⟨⟨⟨⟨⟨⟨⟨trivial, ?_⟩, ?_⟩, ?_⟩, ?_⟩, ?_⟩, ?_⟩, ?_⟩, ?_⟩, ?_⟩, ?_⟩, ?_⟩, ?_⟩, ?_⟩ ?_
            · refine Inv.dutyT_plain rfl rfl (fun L vs a x l0 hG dep up val ev out K hK => ?_)
              have e8 : a.eval (.tmp 8) = .bool true := (out 8 (Inv.ne_of_late (J := 12) (i := 0) (n := 95) (by kernel_rfl) (by kernel_rfl) l0 up (by kernel_rfl))).trans rfl
              refine Inv.wp_value (v := .bool true) ?_ (hK.out _ _ rfl (hG) rfl)
              clear hG hK K dep up val ev out l0
              generalize a.eval = ρ at *
              (simp [execOp, go_sem, *]; done)
            · refine Inv.dutyT_plain rfl rfl (fun L vs a x l0 hG dep up val ev out K hK => ?_)
              have L65 := dep 0 (by kernel_rfl)
              have e65 : a.eval (.tmp 65) = .bool true := (ev 0 65 L65 (by kernel_rfl)).trans (val 0 L65)
              refine Inv.wp_value (v := .bool true) ?_ (hK.out _ _ rfl (hG) rfl)
              clear hG hK K dep up val ev out l0
              generalize a.eval = ρ at *
              (simp [execOp, go_sem, *]; done)
            · exact Inv.dutyT_not rfl rfl rfl (by kernel_rfl) (fun v w h => h) (fun x => rfl) (fun L x h => h) (fun x => trivial)
            · exact Inv.dutyT_not rfl rfl rfl (by kernel_rfl) (fun v w h => h) (fun x => rfl) (fun L x h => h) (fun x => trivial)
            · exact Inv.dutyT_not rfl rfl rfl (by kernel_rfl) (fun v w h => h) (fun x => rfl) (fun L x h => h) (fun x => trivial)
            · exact Inv.dutyT_not rfl rfl rfl (by kernel_rfl) (fun v w h => h) (fun x => rfl) (fun L x h => h) (fun x => trivial)
            · exact Inv.dutyT_not rfl rfl rfl (by kernel_rfl) (fun v w h => h) (fun x => rfl) (fun L x h => h) (fun x => trivial)
            · exact Inv.dutyT_not rfl rfl rfl (by kernel_rfl) (fun v w h => h) (fun x => rfl) (fun L x h => h) (fun x => trivial)
            · exact Inv.dutyT_not rfl rfl rfl (by kernel_rfl) (fun v w h => h) (fun x => rfl) (fun L x h => h) (fun x => trivial)
            · exact Inv.dutyT_not rfl rfl rfl (by kernel_rfl) (fun v w h => h) (fun x => rfl) (fun L x h => h) (fun x => trivial)
            · exact Inv.dutyT_not rfl rfl rfl (by kernel_rfl) (fun v w h => h) (fun x => rfl) (fun L x h => h) (fun x => trivial)
            · refine Inv.dutyT_plain rfl rfl (fun L vs a x l0 hG dep up val ev out K hK => ?_)
              have ek : ∀ u, a.eval (.const u) = u := fun _ => rfl
              have L66 := dep 1 (by kernel_rfl)
              have e66 : a.eval (.tmp 66) = .bool true := (ev 1 66 L66 (by kernel_rfl)).trans (val 1 L66)
              refine Inv.wp_value (v := .bool true) ?_ (hK.out _ _ rfl hG rfl)
              clear hG hK K dep up val ev out l0
              generalize a.eval = ρ at *
              (simp [execOp, go_sem, *]; done)
            · refine Inv.dutyT_plain rfl rfl (fun L vs a x l0 hG dep up val ev out K hK => ?_)
              have L76 := dep 11 (by kernel_rfl)
              have e76 : a.eval (.tmp 76) = .bool true := (ev 11 76 L76 (by kernel_rfl)).trans (val 11 L76)
              refine Inv.wp_value (v := .bool true) ?_ (hK.out _ _ rfl (hG) rfl)
              clear hG hK K dep up val ev out l0
              generalize a.eval = ρ at *
              (simp [execOp, go_sem, *]; done)
            intro vs L4 w4 hL4 hG hv
            have hZ : vs 12 = .bool true := hv 12 (by omega)
            simp only [Inv.putAll, Act.put, List.setIfInBounds_toArray, List.set_cons_zero, List.set_cons_succ, Nat.zero_add, Nat.reduceAdd]
            rw [hZ]
            clear hv hZ
            have W4 := Lib.hid hG
            clear hG
            have B4 := Lib.hid (B3.out.kept W4.out)
            have A4 := Lib.hid (A3.out.kept W4.out)
            have R4 := Lib.hid (ROW3.out.none W4.out)
            have G4 := Lib.hid (grown_trans' W3.out W4.out)
            go_wp2
            go_roundw
            case rel => exact ⟨k + 1, by omega, by go_num, B4.out, R4.out, A4.out, by rw [HKN.out], G4.out⟩
            case measure => simp [intOf]; omega
          | false =>
            obtain ⟨E, hE⟩ : ∃ E, E = decide (y = u) := ⟨_, rfl⟩
            have HKN := Lib.hid (show decide (u ∈ keepA now (s.M.take (k + 1))) = E by
              rw [HTK1.out, hE, Bool.eq_iff_iff, decide_eq_true_iff, decide_eq_true_iff, List.mem_append, List.mem_singleton]
              have := of_decide_eq_false hkn
              exact ⟨fun h => (h.resolve_left this).symm, fun h => Or.inr h.symm⟩)
            have HEQ := Lib.hid (show ∀ w, (binOp .eql 35 (.agg (auC y).toArray) (.agg (auC u).toArray)).run Try.prog w = .ok (.bool E) w from fun w => by rw [run_eql_struct, run_eqAu y u HYW.out HUW.out w, hE]; rfl)
            have HLT := Lib.hid hlt
            clear hkn hE
            go_wp2_with (first
              | (go_at_call 19; refine (above_keep now y.2.1 _ IN.out HYI.out).mono ?_; rintro e w1 ⟨rfl, rfl⟩; rw [HFY.out])
              | refine wpList_loadX (p := auC y) aggA rfl (.tmp 61) rfl (b := ab) (off := ao + k * 19) HCE2.out (auC_len HYW.out) (by first | rfl | go_simp) ?_
              | refine wpList_lit1 Try.underlying28 aggA.hi zeroA_run (auC_len HYW.out) (by omega) (by omega) rfl (.tmp 62) rfl (by first | rfl | go_simp) ?_
              | (refine wpList_appX rowA rfl (.tmp 55) (.tmp 63) rfl (b := wr.heap.size) (off := 0) (c := 1) HRL.out HLC.out (auC_len HYW.out) (auC_one y) (by first | rfl | go_simp) (by first | rfl | go_simp) HKL.out HBS.out ?_; intro vl2 w3 hrow3 hgr3 hat3; have ROW3 := Lib.hid hrow3; have B3 := Lib.hid ((HBM.out.alloc _).row_ hgr3 HVM.out); have A3 := Lib.hid ((HBA.out.alloc _).row_ hgr3 HVA.out); have W3 := Lib.hid (none_row (grown_trans' HW.out (grown_alloc wr _ none)) hgr3 HVW.out); clear hrow3 hgr3 hat3))
            rw [HMA.out] at ROW3
            clear q0 qT
            refine region_byT (n := 13) (ds := [some 65, some 66, some 67, some 68, some 69, some 70, some 71, some 72, some 73, some 74, some 75, some 76, some 8]) (fun _ x y => x = y) (fun _ x => CB x m 30 [.slice (some ⟨ab, ao, none⟩) n cap, .bool s.cl, .int .i64 s.beg] ∧ CB x w.heap.size 35 (auC u) ∧ w3.grownBy x none) (RymF m ab ao n cap k y u E) (by kernel_rfl) (by kernel_rfl) rfl (by kernel_rfl) (fun i j v x z _ _ hT hF => by rw [← hT]; exact hF) ⟨B3.out, A3.out, grown_drew (World.grownBy.refl w3 none)⟩ ⟨⟨⟨⟨⟨⟨⟨⟨⟨⟨⟨⟨⟨trivial, ?_⟩, ?_⟩, ?_⟩, ?_⟩, ?_⟩, ?_⟩, ?_⟩, ?_⟩, ?_⟩, ?_⟩, ?_⟩, ?_⟩, ?_⟩ ?_
            · refine Inv.dutyT_plain rfl rfl (fun L vs a x l0 hG dep up val ev out K hK => ?_)
              have e8 : a.eval (.tmp 8) = .bool false := (out 8 (Inv.ne_of_late (J := 12) (i := 0) (n := 95) (by kernel_rfl) (by kernel_rfl) l0 up (by kernel_rfl))).trans rfl
              refine Inv.wp_value (v := .bool false) ?_ (hK.out _ _ rfl (hG) rfl)
              clear hG hK K dep up val ev out l0
              generalize a.eval = ρ at *
              (simp [execOp, go_sem, *]; done)
            · refine Inv.dutyT_plain rfl rfl (fun L vs a x l0 hG dep up val ev out K hK => ?_)
              have L65 := dep 0 (by kernel_rfl)
              have e65 : a.eval (.tmp 65) = .bool false := (ev 0 65 L65 (by kernel_rfl)).trans (val 0 L65)
              refine Inv.wp_value (v := .bool false) ?_ (hK.out _ _ rfl (hG) rfl)
              clear hG hK K dep up val ev out l0
              generalize a.eval = ρ at *
              (simp [execOp, go_sem, *]; done)
            · refine Inv.dutyT_if rfl rfl rfl (by kernel_rfl) (fun v w h => h) (fun L vs a x l0 hG dep up val ev out K hK => ?_)
              have e0 : a.eval (.tmp 0) = .pointer (some ⟨m, 0, none⟩) := (out 0 (Inv.ne_of_outB (by kernel_rfl))).trans rfl
              refine Inv.wp_value (v := .pointer (some ⟨m, 0, none⟩)) ?_ (hK.out _ _ rfl (hG) rfl)
              clear hG hK K dep up val ev out l0
              generalize a.eval = ρ at *
              (simp [execOp, go_sem, *]; done)
            · refine Inv.dutyT_if rfl rfl rfl (by kernel_rfl) (fun v w h => h) (fun L vs a x l0 hG dep up val ev out K hK => ?_)
              have L67 := dep 2 (by kernel_rfl)
              have e67 : a.eval (.tmp 67) = .pointer (some ⟨m, 0, none⟩) := (ev 2 67 L67 (by kernel_rfl)).trans (val 2 L67)
              refine Inv.wp_value (v := .pointer (some ⟨m, 0, none⟩)) ?_ (hK.out _ _ rfl (hG) rfl)
              clear hG hK K dep up val ev out l0
              generalize a.eval = ρ at *
              (simp [execOp, go_sem, *]; done)
            · refine Inv.dutyT_if rfl rfl rfl (by kernel_rfl) (fun v w h => h) (fun L vs a x l0 hG dep up val ev out K hK => ?_)
              have L68 := dep 3 (by kernel_rfl)
              have e68 : a.eval (.tmp 68) = .pointer (some ⟨m, 0, none⟩) := (ev 3 68 L68 (by kernel_rfl)).trans (val 3 L68)
              refine Inv.wp_value (v := .pointer (some ⟨m, 0, none⟩)) ?_ (hK.out _ _ rfl (hG) rfl)
              clear hG hK K dep up val ev out l0
              generalize a.eval = ρ at *
              (simp [execOp, go_sem, *]; done)
            · refine Inv.dutyT_if rfl rfl rfl (by kernel_rfl) (fun v w h => h) (fun L vs a x l0 hG dep up val ev out K hK => ?_)
              have L69 := dep 4 (by kernel_rfl)
              have e69 : a.eval (.tmp 69) = .pointer (some ⟨m, 0, none⟩) := (ev 4 69 L69 (by kernel_rfl)).trans (val 4 L69)
              have q0 : x.cell? ⟨m, 0, none⟩ = some (.slice (some ⟨ab, ao, none⟩) n cap) := hG.1.at_ rfl
              refine Inv.wp_value (v := .slice (some ⟨ab, ao, none⟩) n cap) ?_ (hK.out _ _ rfl hG rfl)
              clear hG hK K dep up val ev out l0
              generalize a.eval = ρ at *
              (simp [execOp, go_sem, *]; done)
            · refine Inv.dutyT_if rfl rfl rfl (by kernel_rfl) (fun v w h => h) (fun L vs a x l0 hG dep up val ev out K hK => ?_)
              have e9 : a.eval (.tmp 9) = .int .i64 (k : Int) := (out 9 (Inv.ne_of_outB (by kernel_rfl))).trans rfl
              refine Inv.wp_value (v := .int .i64 (k : Int)) ?_ (hK.out _ _ rfl (hG) rfl)
              clear hG hK K dep up val ev out l0
              generalize a.eval = ρ at *
              (simp [execOp, go_sem, *]; done)
            · refine Inv.dutyT_if rfl rfl rfl (by kernel_rfl) (fun v w h => h) (fun L vs a x l0 hG dep up val ev out K hK => ?_)
              have L70 := dep 5 (by kernel_rfl)
              have e70 : a.eval (.tmp 70) = .slice (some ⟨ab, ao, none⟩) n cap := (ev 5 70 L70 (by kernel_rfl)).trans (val 5 L70)
              have L71 := dep 6 (by kernel_rfl)
              have e71 : a.eval (.tmp 71) = .int .i64 (k : Int) := (ev 6 71 L71 (by kernel_rfl)).trans (val 6 L71)
              have hlt := HLT.out
              have hlt2 : (k : Int) < (n : Int) := by omega
              refine Inv.wp_value (v := .pointer (some ⟨ab, ao + k * 19, none⟩)) ?_ (hK.out _ _ rfl hG rfl)
              clear hG hK K dep up val ev out l0
              generalize a.eval = ρ at *
              (simp [execOp, go_sem, *]; done)
            · refine Inv.dutyT_if rfl rfl rfl (by kernel_rfl) (fun v w h => h) (fun L vs a x l0 hG dep up val ev out K hK => ?_)
              have L72 := dep 7 (by kernel_rfl)
              have e72 : a.eval (.tmp 72) = .pointer (some ⟨ab, ao + k * 19, none⟩) := (ev 7 72 L72 (by kernel_rfl)).trans (val 7 L72)
              exact wp_loadX aggA (.tmp 72) rfl (b := ab) (off := ao + k * 19) (fun j v hj => ((below_of_none (grown_trans' W3.out hG.2.2)).cell (p := ⟨ab, _, none⟩) HAB.out).trans (by have := HC0.out j v hj; rwa [Nat.mul_comm 19 k] at this)) (auC_len HYW.out) e72 (hK.out _ _ rfl hG rfl)
            · refine Inv.dutyT_if rfl rfl rfl (by kernel_rfl) (fun v w h => h) (fun L vs a x l0 hG dep up val ev out K hK => ?_)
              have e4 : a.eval (.tmp 4) = .pointer (some ⟨w.heap.size, 0, none⟩) := (out 4 (Inv.ne_of_outB (by kernel_rfl))).trans rfl
              exact wp_loadC aggA (.tmp 4) rfl hG.2.1 (take_all (auC_length HOA.out)) (by rw [auC_length HOA.out]; omega) e4 (hK.out _ _ rfl hG rfl)
            · refine Inv.dutyT_if rfl rfl rfl (by kernel_rfl) (fun v w h => h) (fun L vs a x l0 hG dep up val ev out K hK => ?_)
              have L73 := dep 8 (by kernel_rfl)
              have e73 : a.eval (.tmp 73) = .agg (auC y).toArray := (ev 8 73 L73 (by kernel_rfl)).trans (val 8 L73)
              have L74 := dep 9 (by kernel_rfl)
              have e74 : a.eval (.tmp 74) = .agg (auC u).toArray := (ev 9 74 L74 (by kernel_rfl)).trans (val 9 L74)
              exact wp_eqV (by kernel_rfl) (.tmp 73) (.tmp 74) rfl e73 e74 HEQ.out (hK.out _ _ rfl hG rfl)
            · refine Inv.dutyT_plain rfl rfl (fun L vs a x l0 hG dep up val ev out K hK => ?_)
              have ek : ∀ u, a.eval (.const u) = u := fun _ => rfl
              have L66 := dep 1 (by kernel_rfl)
              have e66 : a.eval (.tmp 66) = .bool false := (ev 1 66 L66 (by kernel_rfl)).trans (val 1 L66)
              have L75 := dep 10 (by kernel_rfl)
              have e75 : a.eval (.tmp 75) = .bool E := (ev 10 75 L75 (by kernel_rfl)).trans (val 10 L75)
              refine Inv.wp_value (v := .bool E) ?_ (hK.out _ _ rfl (hG) rfl)
              clear hG hK K dep up val ev out l0
              generalize a.eval = ρ at *
              (simp [execOp, go_sem, *]; done)
            · refine Inv.dutyT_plain rfl rfl (fun L vs a x l0 hG dep up val ev out K hK => ?_)
              have L76 := dep 11 (by kernel_rfl)
              have e76 : a.eval (.tmp 76) = .bool E := (ev 11 76 L76 (by kernel_rfl)).trans (val 11 L76)
              refine Inv.wp_value (v := .bool E) ?_ (hK.out _ _ rfl (hG) rfl)
              clear hG hK K dep up val ev out l0
              generalize a.eval = ρ at *
              (simp [execOp, go_sem, *]; done)
            intro vs L4 w4 hL4 hG hv
            have hZ : vs 12 = .bool E := hv 12 (by omega)
            simp only [Inv.putAll, Act.put, List.setIfInBounds_toArray, List.set_cons_zero, List.set_cons_succ, Nat.zero_add, Nat.reduceAdd]
            rw [hZ]
            clear hv hZ
            have W4 := Lib.hid hG.2.2
            clear hG
            have B4 := Lib.hid (B3.out.kept W4.out)
            have A4 := Lib.hid (A3.out.kept W4.out)
            have R4 := Lib.hid (ROW3.out.none W4.out)
            have G4 := Lib.hid (grown_trans' W3.out W4.out)
            go_wp2
            go_roundw
            case rel => exact ⟨k + 1, by omega, by go_num, B4.out, R4.out, A4.out, by rw [HKN.out], G4.out⟩
            case measure => simp [intOf]; omega
      · have hdone := hlt
        have hkn : k = n := by omega
        subst hkn
        have htk : s.M.take k = s.M := List.take_of_length_le (by rw [HN.out]; exact Nat.le_refl _)
        obtain ⟨K1, hK1⟩ : ∃ K1, K1 = keepA now s.M := ⟨_, rfl⟩
        rw [htk, ← hK1] at hRL
        rw [htk, ← hK1]
        have HK1 := Lib.hid hK1
        have HLN := Lib.hid (show K1.length ≤ 1000000 by rw [hK1]; exact Nat.le_trans (List.length_filter_le _ _) (by rw [HN.out]; omega))
        obtain ⟨A2, cap2, hv2, _, _⟩ := hRL.shape
        subst hv2
        rw [List.length_map] at hRL
        rw [List.length_map]
        obtain ⟨n2, hn2⟩ : ∃ n2, n2 = K1.length := ⟨_, rfl⟩
        rw [← hn2] at hRL
        rw [← hn2]
        have HN2 := Lib.hid hn2
        have HVM := Lib.hid (row_ne hRL (g := m) (by have := HML.out; omega))
        have HVA := Lib.hid (row_ne hRL (g := w.heap.size) (by omega))
        have HVW := Lib.hid (fun g hg => Nat.le_of_lt (hRL.lt g hg).1)
        have HR5 := Lib.hid hRL
        obtain ⟨s1, hs1⟩ : ∃ s1 : St, s1 = ⟨K1, s.cl, s.beg⟩ := ⟨_, rfl⟩
        have HSM := Lib.hid (show s1.M = K1 by rw [hs1])
        have HSC := Lib.hid (show s1.cl = s.cl by rw [hs1])
        have HSB := Lib.hid (show s1.beg = s.beg by rw [hs1])
        have hr := HR.out
        rw [← hK1, ← hs1] at hr
        have HOK1 := Lib.hid (show ∀ x ∈ K1, auOk x from fun x hx => HOKS.out x (keepA_sub (by rw [← hK1]; exact hx)))
        have HS1E := Lib.hid hs1
        clear hBM hRL hBA hW htk hK1 hn2 hs1
        by_cases hin : u ∈ K1
        · rw [if_pos hin] at hr
          have HR2 := Lib.hid hr
          rw [decide_eq_true hin]
          clear hin hr
          go_wp2_with (refine wpList_storeC (off := 0) (p := [.slice A2 n2 cap2]) sizeSl rfl (.tmp 80) (.tmp 78) rfl (.slice A2 n2 cap2) rfl (fun x hx => by rw [List.mem_singleton.1 hx]; rfl) HBM.out rfl (by simp) (by first | rfl | go_simp) (by first | rfl | go_simp) ?_; intro w6 h6 g6)
          go_ret
          rw [HR2.out]
          exact ⟨rfl, ⟨⟨_, by rw [HSC.out, HSB.out]; exact h6, by rw [HSM.out]; exact (HR5.out.row g6 (fun e => HVM.out _ e rfl)).base_ (Nat.zero_le _)⟩, by rw [HSB.out]; exact HBE.out, by rw [HSM.out]; exact HOK1.out⟩, grown_trans' (grown_some HW.out m) g6⟩
        · rw [if_neg hin] at hr
          rw [decide_eq_false hin]
          clear hin
          by_cases h16 : 16 ≤ n2
          · rw [if_pos (by rw [← HN2.out]; exact h16)] at hr
            have HR2 := Lib.hid hr
            have d1 : decide ((16 : Int) ≤ (n2 : Int)) = true := decide_eq_true (by omega)
            clear h16 hr
            go_wp2_with (refine wpList_storeC (off := 0) (p := [.slice A2 n2 cap2]) sizeSl rfl (.tmp 80) (.tmp 78) rfl (.slice A2 n2 cap2) rfl (fun x hx => by rw [List.mem_singleton.1 hx]; rfl) HBM.out rfl (by simp) (by first | rfl | go_simp) (by first | rfl | go_simp) ?_; intro w6 h6 g6)
            go_ret
            rw [HR2.out]
            exact ⟨rfl, ⟨⟨_, by rw [HSC.out, HSB.out]; exact h6, by rw [HSM.out]; exact (HR5.out.row g6 (fun e => HVM.out _ e rfl)).base_ (Nat.zero_le _)⟩, by rw [HSB.out]; exact HBE.out, by rw [HSM.out]; exact HOK1.out⟩, grown_trans' (grown_some HW.out m) g6⟩
          · rw [if_neg (by rw [← HN2.out]; exact h16)] at hr
            have HR2 := Lib.hid hr
            have d1 : decide ((16 : Int) ≤ (n2 : Int)) = false := decide_eq_false (by omega)
            have HMG := Lib.hid (show w.heap.size ≠ m by have := HML.out; omega)
            clear h16 hr
            go_wp2_with (refine wpList_storeC (off := 0) (p := [.slice A2 n2 cap2]) sizeSl rfl (.tmp 80) (.tmp 78) rfl (.slice A2 n2 cap2) rfl (fun x hx => by rw [List.mem_singleton.1 hx]; rfl) HBM.out rfl (by simp) (by first | rfl | go_simp) (by first | rfl | go_simp) ?_; intro w6 h6 g6; have B6 := Lib.hid (show CB w6 m 30 [.slice A2 n2 cap2, .bool s1.cl, .int .i64 s1.beg] by rw [HSC.out, HSB.out]; exact h6); have R6 := Lib.hid (show RowX w6 0 35 19 (.slice A2 n2 cap2) (s1.M.map auC) by rw [HSM.out]; exact (HR5.out.row g6 (fun e => HVM.out _ e rfl)).base_ (Nat.zero_le _)); have A6 := Lib.hid (HBA.out.grown g6 HMG.out); have G6 := Lib.hid (grown_trans' (grown_some HW.out m) g6); clear h6 g6 q0)
            have HLN2 := Lib.hid (show s1.M.length ≤ 1000000 by rw [HSM.out]; exact HLN.out)
            clear HLN
            have HLN := Lib.hid HLN2.out
            generalize hg4 : w.heap.size = g4 at HVA A6 HMG
            clear hg4
            go_wp2
            refine region_byT (n := 11) (ds := [some 85, some 86, some 87, some 88, some 89, some 90, some 91, some 92, some 93, some 94, none]) (RymT7 m (.slice A2 n2 cap2)) (RymG w m g4 s1 (.slice A2 n2 cap2) u) (RymF7 m s1 (.slice A2 n2 cap2) u) (by kernel_rfl) (by kernel_rfl) rfl (by kernel_rfl) (fun i j v x y hji haf hT hF => RymF7.kept i j v x y hji hT hF (fun e1 e2 => by subst e1 e2; exact absurd haf (by rw [show Inv.afterB _ 7 6 = true by kernel_rfl]; simp)) (fun e1 e2 => by subst e1 e2; exact absurd haf (by rw [show Inv.afterB _ 10 6 = true by kernel_rfl]; simp)) (fun e1 e2 => by subst e1 e2; exact absurd haf (by rw [show Inv.afterB _ 10 7 = true by kernel_rfl]; simp))) ⟨(fun _ => B6.out), (fun _ => R6.out), A6.out, grown_drew G6.out⟩ ⟨⟨⟨⟨⟨⟨⟨⟨⟨⟨⟨trivial, ?_⟩, ?_⟩, ?_⟩, ?_⟩, ?_⟩, ?_⟩, ?_⟩, ?_⟩, ?_⟩, ?_⟩, ?_⟩ ?_
            · refine Inv.dutyT_plain rfl rfl (fun L vs a x l0 hG dep up val ev out K hK => ?_)
              have e0 : a.eval (.tmp 0) = .pointer (some ⟨m, 0, none⟩) := (out 0 (Inv.ne_of_outB (by kernel_rfl))).trans rfl
              refine Inv.wp_value (v := .pointer (some ⟨m, 0, none⟩)) ?_ (hK.out _ _ rfl (RymG.more (i := 0) (by omega) (by omega) hG) rfl)
              clear hG hK K dep up val ev out l0
              generalize a.eval = ρ at *
              (simp [execOp, go_sem, *]; done)
            · refine Inv.dutyT_plain rfl rfl (fun L vs a x l0 hG dep up val ev out K hK => ?_)
              have e0 : a.eval (.tmp 0) = .pointer (some ⟨m, 0, none⟩) := (out 0 (Inv.ne_of_outB (by kernel_rfl))).trans rfl
              refine Inv.wp_value (v := .pointer (some ⟨m, 0, none⟩)) ?_ (hK.out _ _ rfl (RymG.more (i := 1) (by omega) (by omega) hG) rfl)
              clear hG hK K dep up val ev out l0
              generalize a.eval = ρ at *
              (simp [execOp, go_sem, *]; done)
            · refine Inv.dutyT_plain rfl rfl (fun L vs a x l0 hG dep up val ev out K hK => ?_)
              have L86 := dep 1 (by kernel_rfl)
              have e86 : a.eval (.tmp 86) = .pointer (some ⟨m, 0, none⟩) := (ev 1 86 L86 (by kernel_rfl)).trans (val 1 L86)
              refine Inv.wp_value (v := .pointer (some ⟨m, 0, none⟩)) ?_ (hK.out _ _ rfl (RymG.more (i := 2) (by omega) (by omega) hG) rfl)
              clear hG hK K dep up val ev out l0
              generalize a.eval = ρ at *
              (simp [execOp, go_sem, *]; done)
            · refine Inv.dutyT_plain rfl rfl (fun L vs a x l0 hG dep up val ev out K hK => ?_)
              have L87 := dep 2 (by kernel_rfl)
              have e87 : a.eval (.tmp 87) = .pointer (some ⟨m, 0, none⟩) := (ev 2 87 L87 (by kernel_rfl)).trans (val 2 L87)
              refine Inv.wp_value (v := .pointer (some ⟨m, 0, none⟩)) ?_ (hK.out _ _ rfl (RymG.more (i := 3) (by omega) (by omega) hG) rfl)
              clear hG hK K dep up val ev out l0
              generalize a.eval = ρ at *
              (simp [execOp, go_sem, *]; done)
            · refine Inv.dutyT_plain rfl rfl (fun L vs a x l0 hG dep up val ev out K hK => ?_)
              have L88 := dep 3 (by kernel_rfl)
              have e88 : a.eval (.tmp 88) = .pointer (some ⟨m, 0, none⟩) := (ev 3 88 L88 (by kernel_rfl)).trans (val 3 L88)
              have q0 : x.cell? ⟨m, 0, none⟩ = some (Value.slice A2 n2 cap2) := (hG.1 (RymG.no l0 up (show Inv.afterB _ 10 4 = true by kernel_rfl))).at_ rfl
              refine Inv.wp_value (v := Value.slice A2 n2 cap2) ?_ (hK.out _ _ rfl (RymG.more (i := 4) (by omega) (by omega) hG) rfl)
              clear hG hK K dep up val ev out l0
              generalize a.eval = ρ at *
              (simp [execOp, go_sem, *]; done)
            · refine Inv.dutyT_plain rfl rfl (fun L vs a x l0 hG dep up val ev out K hK => ?_)
              have e4 : a.eval (.tmp 4) = .pointer (some ⟨g4, 0, none⟩) := (out 4 (Inv.ne_of_outB (by kernel_rfl))).trans rfl
              exact wp_loadC aggA (.tmp 4) rfl hG.2.2.1 (take_all (auC_length HOA.out)) (by rw [auC_length HOA.out]; omega) e4 (hK.out _ _ rfl (RymG.more (i := 5) (by omega) (by omega) hG) rfl)
            · refine Inv.dutyT_plain rfl rfl (fun L vs a x l0 hG dep up val ev out K hK => ?_)
              have L90 := dep 5 (by kernel_rfl)
              have e90 : a.eval (.tmp 90) = .agg (auC u).toArray := (ev 5 90 L90 (by kernel_rfl)).trans (val 5 L90)
              have hrow := hG.2.1 (RymG.no l0 up (show Inv.afterB _ 7 6 = true by kernel_rfl))
              have hsz := hG.2.2.2.size
              exact wp_lit1 Try.underlying28 aggA.hi zeroA_run (auC_length HOA.out) (by omega) (by omega) (.tmp 90) rfl e90 (hK.out _ _ (grown_alloc x _ none) (RymG.made (i := 6) (by omega) (by omega) (grown_alloc x _ none) hG) ⟨x.heap.size, rfl, CB.new x _ _, (fun e => by have := HML.out; omega), (fun e => by have := (hrow.lt _ e).2; omega)⟩)
            · refine Inv.dutyT_plain rfl rfl (fun L vs a x l0 hG dep up val ev out K hK => ?_)
              have L89 := dep 4 (by kernel_rfl)
              have e89 : a.eval (.tmp 89) = .slice A2 n2 cap2 := (ev 4 89 L89 (by kernel_rfl)).trans (val 4 L89)
              have L91 := dep 6 (by kernel_rfl)
              have e91 := ev 6 91 L91 (by kernel_rfl)
              have f91 := val 6 L91
              obtain ⟨g6, hv6, hc6, hn6, hr6⟩ := f91
              refine wp_appX rowA (.tmp 89) (.tmp 91) rfl (b := g6) (off := 0) (c := 1) (hG.2.1 l0) (fun j v hj => by have := hc6.at_ hj; rwa [Nat.zero_add]) (auC_length HOA.out) (auC_one u) e89 (e91.trans hv6) (by rw [List.length_map]; have := HLN.out; omega) (Nat.zero_le _) (fun v' w' hrow hgr hat => ?_)
              have hsz := hG.2.2.2.size
              refine hK.out _ _ hgr (RymG.app HVM.out HVA.out HVW.out (by omega) hgr hG) ⟨hrow, ?_⟩
              rcases hat with h | h
              · rw [h]; exact fun e => HVM.out _ e rfl
              · rw [h]; intro e; have := HML.out; injection e with e; omega
            · refine Inv.dutyT_plain rfl rfl (fun L vs a x l0 hG dep up val ev out K hK => ?_)
              have L85 := dep 0 (by kernel_rfl)
              have e85 : a.eval (.tmp 85) = .pointer (some ⟨m, 0, none⟩) := (ev 0 85 L85 (by kernel_rfl)).trans (val 0 L85)
              refine Inv.wp_value (v := .pointer (some ⟨m, 0, none⟩)) ?_ (hK.out _ _ rfl (RymG.more (i := 8) (by omega) (by omega) hG) rfl)
              clear hG hK K dep up val ev out l0
              generalize a.eval = ρ at *
              (simp [execOp, go_sem, *]; done)
            · refine Inv.dutyT_plain rfl rfl (fun L vs a x l0 hG dep up val ev out K hK => ?_)
              have L93 := dep 8 (by kernel_rfl)
              have e93 : a.eval (.tmp 93) = .pointer (some ⟨m, 0, none⟩) := (ev 8 93 L93 (by kernel_rfl)).trans (val 8 L93)
              refine Inv.wp_value (v := .pointer (some ⟨m, 0, none⟩)) ?_ (hK.out _ _ rfl (RymG.more (i := 9) (by omega) (by omega) hG) rfl)
              clear hG hK K dep up val ev out l0
              generalize a.eval = ρ at *
              (simp [execOp, go_sem, *]; done)
            · refine Inv.dutyT_plain rfl rfl (fun L vs a x l0 hG dep up val ev out K hK => ?_)
              have L92 := dep 7 (by kernel_rfl)
              have e92 := ev 7 92 L92 (by kernel_rfl)
              have f92 := val 7 L92
              have L94 := dep 9 (by kernel_rfl)
              have e94 : a.eval (.tmp 94) = .pointer (some ⟨m, 0, none⟩) := (ev 9 94 L94 (by kernel_rfl)).trans (val 9 L94)
              obtain ⟨A9, c9, hv9, _, _⟩ := f92.1.shape
              exact wp_storeC (off := 0) (p := [vs 7]) sizeSl (.tmp 94) (.tmp 92) rfl (vs 7) (by rw [hv9]; rfl) (fun z hz => by rw [List.mem_singleton.1 hz, hv9]; rfl) (hG.1 l0) rfl (by simp) e94 e92 (fun w' h2 g2 => hK.out _ _ g2 (RymG.done HMG.out L92 g2 hG) ⟨vs 7, h2, f92.1.row g2 f92.2⟩)
            intro vs L w7 hl hG hv
            obtain ⟨v9, hc9, hr9⟩ := hv 10 (by omega)
            have G7 := Lib.hid hG.2.2.2
            have C9 := Lib.hid hc9
            have R9 := Lib.hid hr9
            clear hv hG hl hc9 hr9
            simp only [Inv.putAll, Act.put, List.setIfInBounds_toArray, List.set_cons_zero, List.set_cons_succ, Nat.zero_add, Nat.reduceAdd]
            go_wp2
            go_ret
            rw [HR2.out]
            have hok : ∀ x ∈ K1 ++ [u], auOk x := by
              intro x hx
              rcases List.mem_append.1 hx with hx | hx
              · exact HOK1.out x hx
              · rw [List.mem_singleton.1 hx]; exact HOA.out
            have h9 := R9.out
            have c9 := C9.out
            rw [HSM.out, show [auC u] = [u].map auC from rfl, ← List.map_append] at h9
            rw [HSC.out, HSB.out] at c9
            exact ⟨rfl, ⟨⟨v9, c9, h9⟩, HBE.out, hok⟩, G7.out⟩

end Go.Proofs.Ytgamlioahdbikaa
