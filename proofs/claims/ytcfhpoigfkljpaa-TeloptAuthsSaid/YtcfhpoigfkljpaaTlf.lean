/- The walks of Write: the program's, the document's. -/
import Derived.Test.YtcfhpoigfkljpaaTle
import Derived.Test.YtcfhpoigfkljpaaTlw
namespace Go.Proofs.Ytcfhpoigfkljpaa
open Go.ChangeShapes Go.WideShapes Go.RowKit

section
variable {P : Program} {ops : Array Oper} {Q : Exit → Act → World → Prop} {md : Region.Mode} {S : World → Prop}
/-- What is asked of an operation that may come up. -/
def UpS (P : Program) (ops : Array Oper) (Q : Exit → Act → World → Prop) (md : Region.Mode) (S : World → Prop) (fuel : Nat) (listed : Array Bool) (i : Nat) (o : Oper) (a : Act) (w : World) : Prop :=
  ∀ K : Act → World → Prop, Shut (∀ a' w', S w' → (S w' → wpAnyH P md ops Q S fuel (listed.setIfInBounds i true) a' w') → K a' w') → o.wp P a w K Q
theorem upS_op {fuel : Nat} {listed : Array Bool} {i : Nat} {o : Oper} {a : Act} {w : World} (hi : ops[i]? = some o) (hw : Region.wanted o (yielded ops a.tmps) = true) (h : UpS P ops Q md S fuel listed i o a w) :
    wpOp P ops Q i (fun a' w' => S w' ∧ wpAnyH P md ops Q S fuel (listed.setIfInBounds i true) a' w') a w := by
  unfold wpOp
  rw [hi]
  simp only [hw, if_true]
  exact .inl (h _ fun a' w' hf hh => ⟨hf, hh hf⟩)
theorem helds_two {i j : Nat} {oi oj : Oper} {fuel : Nat} {listed : Array Bool} {a : Act} {w : World} (hr : Region.ready md ops listed = [i, j]) (hi : ops[i]? = some oi) (hj : ops[j]? = some oj)
    (hwi : Region.wanted oi (yielded ops a.tmps) = true) (hwj : Region.wanted oj (yielded ops a.tmps) = true)
    (h1 : UpS P ops Q md S fuel listed i oi a w) (h2 : UpS P ops Q md S fuel listed j oj a w) : wpAnyH P md ops Q S (fuel + 1) listed a w := by
  refine wpAnyH_all hr (by simp) fun k hk => ?_
  simp only [List.mem_cons, List.not_mem_nil, or_false] at hk
  rcases hk with rfl | rfl
  · exact upS_op hi hwi h1
  · exact upS_op hj hwj h2
end

theorem Below.of_mod {S : Nat → Prop} {w w' : World} {B : Nat} (h : Mod S w w') (hB : B ≤ w.heap.size) (hs : ∀ k, k < B → ¬ S k) : Below B w w' := h.below hB hs
theorem RB.apart {w w' : World} {B B' : Nat} {A : Option Addr} {l : List UInt8} {c : Nat} (h : RB w B A l c) (hk : ∀ a, A = some a → 0 < l.length → w'.heap[a.block]? = w.heap[a.block]?) (hB : B ≤ B') : RB w' B' A l c := by
  obtain ⟨h1, h2, h3⟩ := h
  refine ⟨h1, h2, h3.imp id fun ⟨a, hA, hc⟩ => ⟨a, hA, fun k u hu => ?_⟩⟩
  obtain ⟨h4, h5⟩ := hc k u hu
  have hl := (List.getElem?_eq_some_iff.1 hu).1
  refine ⟨Nat.lt_of_lt_of_le h4 hB, (World.cell?_of_block ?_).trans h5⟩
  rw [add_block]
  exact hk a hA (by omega)
theorem RB.blk {w : World} {B : Nat} {A : Option Addr} {l : List UInt8} {c : Nat} (h : RB w B A l c) : ∀ a, A = some a → 0 < l.length → a.block < B := by
  intro a hA hl
  rcases h.2.2 with ⟨h0, _⟩ | ⟨a', hA', hc⟩
  · rw [hA] at h0; cases h0
  · rw [hA] at hA'
    injection hA' with hA'
    subst hA'
    exact (hc 0 _ (List.getElem?_eq_getElem hl)).1
theorem RB.modA {w w' : World} {S : Nat → Prop} {A : Option Addr} {l : List UInt8} {c : Nat} (h : RB w w.heap.size A l c) (k : Mod S w w') (ha : ∀ a, A = some a → 0 < l.length → ¬ S a.block) : RB w' w'.heap.size A l c :=
  h.apart (fun a hA hl => k.block a.block (h.blk a hA hl) (ha a hA hl)) k.size
theorem wp_valD {P : Program} {o : Oper} {a : Act} {w : World} {K : Act → World → Prop} {Q : Exit → Act → World → Prop} {d : Option Tmp} {v : Value} (hd : o.dst = d) (h : (execOp a.eval o).run P w = .ok (.value v) w) (hk : K (a.put d v) w) : o.wp P a w K Q := by
  subst hd
  exact Inv.wp_value h hk
theorem wp_callD {P : Program} {o : Oper} {a : Act} {w : World} {K : Act → World → Prop} {Q : Exit → Act → World → Prop} {d : Option Tmp} {f : FuncId} {args : Array Value} (hd : o.dst = d) (h : (execOp a.eval o).run P w = .ok (.enter f args) w)
    (hc : Calls P f args w fun e w' => ∃ v, e = .returned v ∧ K (a.put d v) w') : o.wp P a w K Q := by
  subst hd
  exact Inv.wp_call h hc
theorem wp_litN {P : Program} {w : World} {o : Oper} {d : Option Tmp} {a : Act} {K : Act → World → Prop} {Q : Exit → Act → World → Prop} {e : TypeId} (n : Nat) (zs : Array Value) (_hd : o.dst = d)
    (hrun : o.wp P a w (fun a' w' => a' = a.put d (.slice (some ⟨w.heap.size, 0, none⟩) n n) ∧ w' = w.alloc (.cells zs e)) Q)
    (hk : ∀ w', w' = w.alloc (.cells zs e) → K (a.put d (.slice (some ⟨w.heap.size, 0, none⟩) n n)) w') : o.wp P a w K Q := by
  refine Oper.wp_mono (fun a' w' h => ?_) hrun
  obtain ⟨rfl, rfl⟩ := h
  exact hk _ rfl
theorem rb2 (w : World) (t : TypeId) (u1 u2 : UInt8) (x1 x2 : Int) (h1 : x1 = (u1.toNat : Int)) (h2 : x2 = (u2.toNat : Int)) : RB (w.alloc (.cells #[.int .u8 x1, .int .u8 x2] t)) (w.alloc (.cells #[.int .u8 x1, .int .u8 x2] t)).heap.size (some ⟨w.heap.size, 0, none⟩) [u1, u2] 2 := by
  subst h1 h2
  exact RB.new w t [u1, u2] (by simp [maxLen]) _ (by rw [World.size_alloc]; omega)
theorem grown_row {a b c : World} {r r' : Option Nat} (h : a.grownBy b r) (k : b.grownBy c r') (hr : ∀ g, r' = some g → a.heap.size ≤ g) : a.grownBy c r :=
  ⟨k.os.trans h.os, k.tape.trans h.tape, k.output.trans h.output, Nat.le_trans h.size k.size, fun i hi hne => (k.block i (Nat.lt_of_lt_of_le hi h.size) (fun e => by have := hr i e.symm; omega)).trans (h.block i hi hne)⟩
theorem OwnB.newN (w : World) (base : Nat) (e : TypeId) (l : List UInt8) (cs : Array Value) (hcs : cs = (bcells l).toArray) (hb : base ≤ w.heap.size) (hl : l.length ≤ maxLen) : OwnB (w.alloc (.cells cs e)) base e (.slice (some ⟨w.heap.size, 0, none⟩) l.length l.length) l := by
  subst hcs
  refine ⟨by rw [bcells_length, Nat.mul_one], .inr ⟨w.heap.size, l.length, (bcells l).toArray, rfl, hb, heap_alloc_new w _, Nat.le_refl _, hl, by simp [bcells], ?_⟩⟩
  simp [bcells, List.take_of_length_le]

/-- What Write comes to. -/
def WtR (w w' : World) (t : Tl) (e : Ending) : Prop := ∃ v, e = .returned (.tuple #[v, .int .i64 (wrE t)]) ∧ OwnB w' w.heap.size 5 v (wrF t) ∧ w.grownBy w' none
section
variable {w : World} {base : Nat}
set_option maxHeartbeats 2000000 in
theorem appendData_any {v : Value} {l0 : List UInt8} (h : OwnB w base 5 v l0) (hb : base ≤ w.heap.size) (A : Option Addr) (d : List UInt8) (n cap : Nat) (hn : d.length = n) (hr : RB w w.heap.size A d cap) (ha : ∀ a, A = some a → 0 < d.length → v.ownBlock ≠ some a.block) (hl : l0.length ≤ 1000000) (hnl : n ≤ 1000000) :
    Calls Try.prog 23 #[v, .slice A n cap] w fun e w' => ∃ v', e = .returned v' ∧ OwnB w' base 5 v' (l0 ++ escF d) ∧ Mod (fun k => v.ownBlock = some k) w w' ∧ Nw w v v' := by
  have H := Lib.hid h
  have HR := Lib.hid hr
  have HN := Lib.hid hn
  have HA := Lib.hid ha
  have HB := Lib.hid hb
  clear h hr hn ha hb
  have hni : (n : Int) ≤ 1000000 := by omega
  go_enter Try.func23, Try.ntmps23
  go_wp2
  go_loopw [0, 6, 9] (fun s0 _ s9 wr => ∃ k : Nat, s9 = .int .i64 k ∧ k ≤ n ∧ OwnB wr base 5 s0 (l0 ++ escF (d.take k)) ∧ Mod (fun k => v.ownBlock = some k) w wr ∧ Nw w v s0) (fun _ _ s9 _ => n - (intOf s9).toNat)
  case atStart => exact ⟨0, rfl, Nat.zero_le _, by simpa [escF] using H.out, Mod.refl _ _, Nw.refl _ _⟩
  case round =>
    obtain ⟨k, rfl, hk, ho, hm, hw⟩ := hrel
    have OO := Lib.hid ho
    have MM := Lib.hid hm
    have NN := Lib.hid hw
    by_cases hkn : k < n
    · have hki : (k : Int) < (n : Int) := by omega
      have hkl : k < d.length := by rw [HN.out]; exact hkn
      obtain ⟨b, off, rfl, hbb, hc⟩ := HR.out.open_ (by omega)
      obtain ⟨c, hcv⟩ : ∃ c, c = d[k] := ⟨_, rfl⟩
      have hck := hc k hkl
      rw [← hcv] at hck
      have k0 : wr.cell? ⟨b, off + k, none⟩ = some (.int .u8 (c.toNat : Int)) := (World.cell?_of_block (hm.block b hbb (HA.out _ rfl (by omega)))).trans hck
      have HE := Lib.hid (escF_take d k hkl)
      rw [← hcv] at HE
      have HLE := Lib.hid (show (escF (d.take k)).length ≤ 2000000 by have := escF_length (d.take k); rw [List.length_take] at this; omega)
      have HSZ := Lib.hid (Nat.le_trans HB.out hm.size)
      obtain ⟨x, hx⟩ : ∃ x, (c.toNat : Int) = x := ⟨_, rfl⟩
      have HX := Lib.hid hx
      rw [hx] at k0
      clear ho hm hw hc hck hcv hkl hbb
      by_cases h255 : c.toNat = 255
      · have e255 : (x == 255) = true := by rw [beq_iff_eq]; omega
        have HC := Lib.hid h255
        clear hx h255
        go_wp2_with (first
          | (at_builtin
             refine wpList_appB byteT rfl (.tmp 15) (.tmp 17) rfl (OwnB.none_ OO.out (grown_alloc _ _ none)) (rb1 _ _ c _ HX.out.symm) (by first | rfl | go_simp) (by first | rfl | go_simp) (by rw [List.length_append]; have := HLE.out; simp; omega) (by rw [World.size_alloc]; have := HSZ.out; omega) ?_
             intro v2 w2 o2 g2 _ a2
             have O2 := Lib.hid o2
             have M2 := Lib.hid ((MM.out.next (Mod.made (S := fun _ => False) (grown_alloc _ _ none)) (fun _ _ e => e.elim)).grown g2 (fun z hz hlt => by rcases NN.out z hz with e | e; exact e; omega))
             have N2 := Lib.hid (NN.out.trans (Nw.of a2 (by rw [World.size_alloc]; omega)) MM.out.size)
             have S2 := Lib.hid (show base ≤ w2.heap.size from by have := HSZ.out; have := g2.size; rw [World.size_alloc] at this; omega)
             clear o2 g2 a2)
          | (at_builtin
             refine wpList_appB byteT rfl (.tmp 19) (.tmp 21) rfl (OwnB.none_ O2.out (grown_alloc _ _ none)) (rb1 _ _ c _ HX.out.symm) (by first | rfl | go_simp) (by first | rfl | go_simp) (by rw [List.length_append, List.length_append]; have := HLE.out; simp; omega) (by rw [World.size_alloc]; have := S2.out; omega) ?_
             intro v3 w3 o3 g3 _ a3
             have O3 := Lib.hid o3
             have M3 := Lib.hid ((M2.out.next (Mod.made (S := fun _ => False) (grown_alloc _ _ none)) (fun _ _ e => e.elim)).grown g3 (fun z hz hlt => by rcases N2.out z hz with e | e; exact e; omega))
             have N3 := Lib.hid (N2.out.trans (Nw.of a3 (by rw [World.size_alloc]; omega)) M2.out.size)
             clear o3 g3 a3))
        go_roundw
        case rel => exact ⟨k + 1, by go_num, by omega, by rw [HE.out, if_pos HC.out]; simpa [List.append_assoc] using O3.out, M3.out, N3.out⟩
        case measure => simp [intOf]; omega
      · have e255 : (x == 255) = false := by rw [beq_eq_false_iff_ne]; omega
        have HC := Lib.hid h255
        clear hx h255
        go_wp2_with (at_builtin
                     refine wpList_appB byteT rfl (.tmp 19) (.tmp 21) rfl (OwnB.none_ OO.out (grown_alloc _ _ none)) (rb1 _ _ c _ HX.out.symm) (by first | rfl | go_simp) (by first | rfl | go_simp) (by rw [List.length_append]; have := HLE.out; simp; omega) (by rw [World.size_alloc]; have := HSZ.out; omega) ?_
                     intro v3 w3 o3 g3 _ a3
                     have O3 := Lib.hid o3
                     have M3 := Lib.hid ((MM.out.next (Mod.made (S := fun _ => False) (grown_alloc _ _ none)) (fun _ _ e => e.elim)).grown g3 (fun z hz hlt => by rcases NN.out z hz with e | e; exact e; omega))
                     have N3 := Lib.hid (NN.out.trans (Nw.of a3 (by rw [World.size_alloc]; omega)) MM.out.size)
                     clear o3 g3 a3)
        go_roundw
        case rel => exact ⟨k + 1, by go_num, by omega, by rw [HE.out, if_neg HC.out]; simpa [List.append_assoc] using O3.out, M3.out, N3.out⟩
        case measure => simp [intOf]; omega
    · obtain rfl : k = n := by omega
      have hki : ¬ (k : Int) < (k : Int) := by omega
      have hlt : d.take k = d := List.take_of_length_le (by rw [HN.out]; exact Nat.le_refl _)
      rw [hlt] at OO
      clear ho hm hw hlt
      go_wp2
      go_ret
      exact ⟨_, rfl, OO.out, MM.out, NN.out⟩
set_option maxHeartbeats 2000000 in
theorem escaped_any (A : Option Addr) (d : List UInt8) (n cap : Nat) (hn : d.length = n) (hr : RB w w.heap.size A d cap) (hnl : n ≤ 1000000) :
    Calls Try.prog 24 #[.slice A n cap] w fun e w' => ∃ v', e = .returned v' ∧ OwnB w' w.heap.size 5 v' (escF d) ∧ w.grownBy w' none := by
  have HR := Lib.hid hr
  have HN := Lib.hid hn
  clear hr hn
  have hni : (n : Int) ≤ 1000000 := by omega
  go_enter Try.func24, Try.ntmps24
  go_wp2
  have S0 := Lib.hid (OwnB.new0 w w.heap.size 5 (Nat.le_refl _))
  go_loopw [3, 4] (fun s3 s4 wr => ∃ k : Nat, s4 = .int .i64 k ∧ k ≤ n ∧ OwnB wr w.heap.size 5 s3 (escF (d.take k)) ∧ w.grownBy wr none) (fun _ s4 _ => n - (intOf s4).toNat)
  case atStart => exact ⟨0, rfl, Nat.zero_le _, S0.out, grown_alloc _ _ _⟩
  case round =>
    obtain ⟨k, rfl, hk, ho, hg⟩ := hrel
    have OO := Lib.hid ho
    have GG := Lib.hid hg
    by_cases hkn : k < n
    · have hki : (k : Int) < (n : Int) := by omega
      have hkl : k < d.length := by rw [HN.out]; exact hkn
      obtain ⟨b, off, rfl, hbb, hc⟩ := HR.out.open_ (by omega)
      obtain ⟨c, hcv⟩ : ∃ c, c = d[k] := ⟨_, rfl⟩
      have hck := hc k hkl
      rw [← hcv] at hck
      have k0 : wr.cell? ⟨b, off + k, none⟩ = some (.int .u8 (c.toNat : Int)) := ((below_of_none hg).cell (p := ⟨b, off + k, none⟩) hbb).trans hck
      have HE := Lib.hid (escF_take d k hkl)
      rw [← hcv] at HE
      have HLE := Lib.hid (show (escF (d.take k)).length ≤ 2000000 by have := escF_length (d.take k); rw [List.length_take] at this; omega)
      have HSZ := Lib.hid hg.size
      have HBL := Lib.hid hbb
      obtain ⟨x, hx⟩ : ∃ x, (c.toNat : Int) = x := ⟨_, rfl⟩
      have HX := Lib.hid hx
      rw [hx] at k0
      clear ho hg hc hck hcv hkl hbb
      by_cases h255 : c.toNat = 255
      · have e255 : (x == 255) = true := by rw [beq_iff_eq]; omega
        have HC := Lib.hid h255
        clear hx h255
        go_wp2_with (first
          | (at_builtin
             refine wpList_appB byteT rfl (.tmp 12) (.tmp 17) rfl (OwnB.none_ OO.out (grown_alloc _ _ none)) (rb1 _ _ c _ HX.out.symm) (by first | rfl | go_simp) (by first | rfl | go_simp) (by have := HLE.out; simp; omega) (by rw [World.size_alloc]; have := HSZ.out; omega) ?_
             intro v2 w2 o2 g2 _ a2
             have O2 := Lib.hid o2
             have G2 := Lib.hid (grown_row (grown_trans' GG.out (grown_alloc _ _ none)) g2 (fun z hz => (OO.out.lt z hz).1))
             have k2 : w2.cell? ⟨b, off + k, none⟩ = some (.int .u8 x) := (g2.cell (a := ⟨b, off + k, none⟩) (cell_alloc k0 _) (fun e => by have := (OO.out.lt b e.symm).1; have := (HBL.out); omega))
             clear o2 g2 a2)
          | (at_builtin
             refine wpList_appB byteT rfl (.tmp 24) (.tmp 25) rfl (OwnB.none_ O2.out (grown_alloc _ _ none)) (rb1 _ _ 255 _ rfl) (by first | rfl | go_simp) (by first | rfl | go_simp) (by rw [List.length_append]; have := HLE.out; simp; omega) (by rw [World.size_alloc]; have := G2.out.size; omega) ?_
             intro v3 w3 o3 g3 _ a3
             have O3 := Lib.hid o3
             have G3 := Lib.hid (grown_row (grown_trans' G2.out (grown_alloc _ _ none)) g3 (fun z hz => (O2.out.lt z hz).1))
             clear o3 g3 a3))
        go_roundw
        case rel =>
          have e : c = 255 := by rw [← UInt8.toNat_inj]; exact HC.out
          exact ⟨k + 1, by go_num, by omega, by rw [HE.out, if_pos HC.out, e]; have := O3.out; rw [e] at this; simpa [List.append_assoc] using this, G3.out⟩
        case measure => simp [intOf]; omega
      · have e255 : (x == 255) = false := by rw [beq_eq_false_iff_ne]; omega
        have HC := Lib.hid h255
        clear hx h255
        go_wp2_with (at_builtin
                     refine wpList_appB byteT rfl (.tmp 12) (.tmp 17) rfl (OwnB.none_ OO.out (grown_alloc _ _ none)) (rb1 _ _ c _ HX.out.symm) (by first | rfl | go_simp) (by first | rfl | go_simp) (by have := HLE.out; simp; omega) (by rw [World.size_alloc]; have := HSZ.out; omega) ?_
                     intro v2 w2 o2 g2 _ a2
                     have O2 := Lib.hid o2
                     have G2 := Lib.hid (grown_row (grown_trans' GG.out (grown_alloc _ _ none)) g2 (fun z hz => (OO.out.lt z hz).1))
                     have k2 : w2.cell? ⟨b, off + k, none⟩ = some (.int .u8 x) := (g2.cell (a := ⟨b, off + k, none⟩) (cell_alloc k0 _) (fun e => by have := (OO.out.lt b e.symm).1; have := (HBL.out); omega))
                     clear o2 g2 a2)
        go_roundw
        case rel => exact ⟨k + 1, by go_num, by omega, by rw [HE.out, if_neg HC.out]; exact O2.out, G2.out⟩
        case measure => simp [intOf]; omega
    · obtain rfl : k = n := by omega
      have hki : ¬ (k : Int) < (k : Int) := by omega
      have hlt : d.take k = d := List.take_of_length_le (by rw [HN.out]; exact Nat.le_refl _)
      rw [hlt] at OO
      clear ho hg hlt
      go_wp2
      go_ret
      exact ⟨_, rfl, OO.out, GG.out⟩
end
end Go.Proofs.Ytcfhpoigfkljpaa
