/- The walks of Same of the document's answer, where the two lists are one; of speaks. -/
import Derived.Test.YtcfhpoigfkljpaaTlh
import Derived.Lib.SlBytesConst
import Derived.Deep.QuietTactic
import Derived.BigQuiet
namespace Go.Proofs.Ytcfhpoigfkljpaa
open Go.ChangeShapes Go.WideShapes Go.RowKit

theorem drewN_grown (w : World) (m : Nat) : w.grownBy (w.drewN m) none := ⟨rfl, rfl, rfl, Nat.le_refl _, fun _ _ _ => rfl⟩
theorem strTy : Try.prog.underlying 9 = some .string := Try.underlying9
set_option maxRecDepth 20000 in
set_option maxHeartbeats 4000000 in
theorem same_any (w : World) (A A' : Option Addr) (ts : List Tl) (n cap cap' B : Nat) (hn : ts.length = n) (h : RP w B A ts cap) (h' : RP w B A' ts cap') (hB : B ≤ w.heap.size) :
    Calls Try.prog 13 #[.slice A n cap, .slice A' n cap'] w fun e w' => e = .returned (.bool true) ∧ w.grownBy w' none := by
  have hnl : n ≤ 9223372036854775807 := by have := h.1; have := h.2.1; unfold maxLen at this; omega
  have H := Lib.hid h
  have H' := Lib.hid h'
  have HN := Lib.hid hn
  clear h h' hn
  go_enter Try.func13, Try.ntmps13
  go_wp2
  go_loopw [5] (fun i wr => ∃ k : Nat, i = .int .i64 k ∧ k ≤ n ∧ Hid (w.grownBy wr none)) (fun i _ => n - (intOf i).toNat)
  case atStart => exact ⟨0, rfl, Nat.zero_le _, World.grownBy.refl _ _⟩
  case round =>
    obtain ⟨k, rfl, hk, HG⟩ := hrel
    by_cases hlt : k < n
    · have hki : (k : Int) < (n : Int) := by omega
      obtain ⟨t, ht⟩ : ∃ t, ts[k]? = some t := ⟨_, List.getElem?_eq_getElem (by rw [HN.out]; exact hlt)⟩
      obtain ⟨b, off, rfl, hb, hc⟩ := H.out.open_ (by rw [HN.out]; omega)
      obtain ⟨b', off', rfl, hb', hc'⟩ := H'.out.open_ (by rw [HN.out]; omega)
      obtain ⟨x0, x1, x2, V, c, x3, hV⟩ := hc k t ht
      obtain ⟨y0, y1, y2, V', c', y3, hV'⟩ := hc' k t ht
      obtain ⟨ln, hln⟩ : ∃ ln, t.data.length = ln := ⟨_, rfl⟩
      rw [hln] at x3 y3
      have be := (below_of_none HG.out)
      have kv1 : ∀ m, (convert 22 9 (.slice V ln c)).run Try.prog (wr.drewN m) = .ok (.string ⟨t.data.toArray⟩) (wr.drewN m) := fun m => by
        have := run_strB (P := Try.prog) (w := wr.drewN m) byteT strTy (((hV.more hB).below be).below (below_of_none (drewN_grown wr m) |> fun h => ⟨h.os, h.tape, h.output, h.size, fun _ _ => rfl⟩))
        rw [hln] at this
        exact this
      have kv2 : ∀ m, (convert 22 9 (.slice V' ln c')).run Try.prog (wr.drewN m) = .ok (.string ⟨t.data.toArray⟩) (wr.drewN m) := fun m => by
        have := run_strB (P := Try.prog) (w := wr.drewN m) byteT strTy (((hV'.more hB).below be).below (below_of_none (drewN_grown wr m) |> fun h => ⟨h.os, h.tape, h.output, h.size, fun _ _ => rfl⟩))
        rw [hln] at this
        exact this
      have a0 : wr.cell? ⟨b, off + k * 4, none⟩ = some (.int .i64 t.kind) := (be.cell (p := ⟨b, off + k * 4, none⟩) (Nat.lt_of_lt_of_le hb hB)).trans x0
      have a1 : wr.cell? ⟨b, off + k * 4 + 1, none⟩ = some (.int .i64 t.verb) := (be.cell (p := ⟨b, off + k * 4 + 1, none⟩) (Nat.lt_of_lt_of_le hb hB)).trans x1
      have a2 : wr.cell? ⟨b, off + k * 4 + 2, none⟩ = some (.int .i64 t.opt) := (be.cell (p := ⟨b, off + k * 4 + 2, none⟩) (Nat.lt_of_lt_of_le hb hB)).trans x2
      have a3 : wr.cell? ⟨b, off + k * 4 + 3, none⟩ = some (.slice V ln c) := (be.cell (p := ⟨b, off + k * 4 + 3, none⟩) (Nat.lt_of_lt_of_le hb hB)).trans x3
      have b0 : wr.cell? ⟨b', off' + k * 4, none⟩ = some (.int .i64 t.kind) := (be.cell (p := ⟨b', off' + k * 4, none⟩) (Nat.lt_of_lt_of_le hb' hB)).trans y0
      have b1 : wr.cell? ⟨b', off' + k * 4 + 1, none⟩ = some (.int .i64 t.verb) := (be.cell (p := ⟨b', off' + k * 4 + 1, none⟩) (Nat.lt_of_lt_of_le hb' hB)).trans y1
      have b2 : wr.cell? ⟨b', off' + k * 4 + 2, none⟩ = some (.int .i64 t.opt) := (be.cell (p := ⟨b', off' + k * 4 + 2, none⟩) (Nat.lt_of_lt_of_le hb' hB)).trans y2
      have b3 : wr.cell? ⟨b', off' + k * 4 + 3, none⟩ = some (.slice V' ln c') := (be.cell (p := ⟨b', off' + k * 4 + 3, none⟩) (Nat.lt_of_lt_of_le hb' hB)).trans y3
      clear x0 x1 x2 x3 y0 y1 y2 y3 hV hV' hc hc' hb hb' hln be ht
      generalize t.kind = tk at *
      generalize t.verb = tv at *
      generalize t.opt = to_ at *
      generalize t.data.toArray = td at *
      go_wp2
      go_quiet (fail)
      go_wp2
      go_roundw
      case rel => exact ⟨k + 1, by go_num, by omega, grown_trans' HG.out (drewN_grown wr nq)⟩
      case measure => simp [intOf]; omega
    · have hki : ¬ (k : Int) < (n : Int) := by omega
      go_wp2
      go_ret
      exact ⟨rfl, HG.out⟩

/-- What is made, or made by a Feed of what was made, keeps all that was there. -/
theorem none_feed {w x y : World} {base r : Nat} {v : Value} {s : Ts} (hg : w.grownBy x none) (hR : RD x base r v s) (hb : w.heap.size ≤ base) (hM : Mod (rdS r v) x y) : w.grownBy y none :=
  ⟨hM.os.trans hg.os, hM.tape.trans hg.tape, hM.output.trans hg.output, Nat.le_trans hg.size hM.size, fun k hk _ => (hM.block k (Nat.lt_of_lt_of_le hk hg.size) (fun e => by
    rcases e with e | e
    · have := hR.1; omega
    · have := (hR.vlt k e).1; omega)).trans (hg.block k hk (fun e => by cases e))⟩
/-- What lies in a new block isn't the Reader's. -/
theorem RD.apart {w : World} {base r : Nat} {v : Value} {s : Ts} (h : RD w base r v s) {g : Nat} (hg : w.heap.size ≤ g) {n : Nat} : ∀ a, (some ⟨g, 0, none⟩ : Option Addr) = some a → 0 < n → a.block ≠ r ∧ v.ownBlock ≠ some a.block := by
  intro a ha _
  injection ha with ha
  subst ha
  exact ⟨by have := h.lt.2; show g ≠ r; omega, fun e => by have := (h.vlt g e).2.1; omega⟩
/-- What a Feed answered stays when the Reader is fed again. -/
theorem OwnP.later {w w' : World} {b bb base r : Nat} {pv v : Value} {vs : List Value} {ts : List Tl} {s : Ts} (h : OwnP w b bb vs v ts) (hr : RD w base r pv s) (hu : ∀ u ∈ vs, ∀ g, u.ownBlock = some g → pv.ownBlock ≠ some g) (hm : Mod (rdS r pv) w w') : OwnP w' b bb vs v ts := by
  refine h.mod hm (fun g hg e => ?_) (fun u hu' g hg e => ?_)
  · rcases e with e | e
    · subst e; exact h.ne_cells hr.2.1 (by decide) hg
    · exact h.ne_own hr.2.2 e hg
  · rcases e with e | e
    · subst e
      obtain ⟨i, hi⟩ := List.mem_iff_getElem?.1 hu'
      have hlt := (List.getElem?_eq_some_iff.1 hi).1
      exact (h.dat i _ u (List.getElem?_eq_getElem (by have := h.len; omega)) hi).ne_cells hr.2.1 (by decide) hg
    · exact hu u hu' g hg e
/-- Bytes of the call's own stay when a Reader is fed that came later. -/
theorem OwnB.later {w w' : World} {b base r : Nat} {pv u : Value} {l : List UInt8} {s : Ts} (h : OwnB w b 5 u l) (hr : RD w base r pv s) (hu : ∀ g, u.ownBlock = some g → pv.ownBlock ≠ some g) (hm : Mod (rdS r pv) w w') : OwnB w' b 5 u l :=
  h.mod hm (fun g hg e => by
    rcases e with e | e
    · subst e; exact h.ne_cells hr.2.1 (by decide) hg
    · exact hu g hg e)
theorem wpList_convR {P : Program} {w : World} {ops : Array Oper} {rest : List Oper} {o : Oper} {a : Act} {Q : Exit → Act → World → Prop} {t1 t2 : TypeId} {u v : Value} (hgd : o.guard = none) (x : Operand) (ho : o.op = .convert t1 t2 x) (hx : a.eval x = u) (h : (convert t1 t2 u).run P w = .ok v w)
    (hk : wpList P ops Q rest (a.put o.dst v) w) : wpList P ops Q (o :: rest) a w := by
  refine wpList_plain hgd fun K hK => ?_
  unfold Oper.wp execOp
  simp only [ho, hx, Sem.run_bind, Sem.run_pure, h, Result.andThen_ok]
  exact hK _ _ hk
theorem rb2m (w : World) (t : TypeId) (f : Nat × Nat) (u1 u2 : UInt8) (x1 x2 : Int) (h1 : x1 = (u1.toNat : Int)) (h2 : x2 = (u2.toNat : Int)) : RB (w.alloc (.cells #[.int .u8 x1, .int .u8 x2] t f)) (w.alloc (.cells #[.int .u8 x1, .int .u8 x2] t f)).heap.size (some ⟨w.heap.size, 0, none⟩) [u1, u2] 2 := by
  subst h1 h2
  exact RB.newm w t f [u1, u2] (by simp [maxLen]) _ (by rw [World.size_alloc]; omega)
theorem sp1 : endT ts0 [97, 255] = ⟨1, tl0, 0⟩ ∧ feedT ts0 [97, 255] = [⟨1, 0, 0, [97]⟩] := ⟨by decide +kernel, by decide +kernel⟩
theorem sp2 : endT ⟨1, tl0, 0⟩ [255, 98] = ts0 ∧ feedT ⟨1, tl0, 0⟩ [255, 98] = [⟨1, 0, 0, [255, 98]⟩] := ⟨by decide +kernel, by decide +kernel⟩
theorem sp3 : wrE ⟨1, 0, 0, [97, 255]⟩ = 0 ∧ wrF ⟨1, 0, 0, [97, 255]⟩ = [97, 255, 255] := ⟨by decide +kernel, by decide +kernel⟩
theorem ok1 : OkT ⟨1, tl0, 0⟩ := .inr (.inl ⟨rfl, .inl ⟨rfl, rfl⟩⟩)
set_option maxRecDepth 20000 in
set_option maxHeartbeats 4000000 in
theorem speaks_any (w : World) : Calls Try.prog 8 #[] w fun e w' => e = .returned (.bool true) ∧ w.grownBy w' none := by
  have kc := fun (w : World) (C : Array Value) (n c : Nat) => Lib.run_convert_bytes_const (P := Try.prog) w 22 5 C n c Try.underlying22 Try.underlying5
  have TK0 := Lib.hid True.intro
  go_enter Try.func8, Try.ntmps8
  go_wp2_with (first
    | (go_at_call 9
       have hx := TK0
       clear hx TK0
       refine (write_any _ ⟨1, 0, 0, [97, 255]⟩ _ 2 2 rfl (rb2m _ _ _ 97 255 _ _ rfl rfl) (by omega)).mono ?_
       rintro e w1 ⟨v1, rfl, o1, g1⟩
       rw [sp3.1, sp3.2] at *
       obtain ⟨A1, c1, rfl, r1, -⟩ := o1.shape
       have O1 := Lib.hid o1
       have G1 := Lib.hid (grown_trans' (grown_alloc w _ none) g1)
       have TK1 := Lib.hid True.intro
       clear o1 g1 r1)
    | (go_at_call 11
       have hx := TK1
       clear hx TK1
       refine (newReader_any _).mono ?_
       rintro e w2 ⟨rfl, r2, g2⟩
       have R2 := Lib.hid (r2.base_ G1.out.size)
       have G2 := Lib.hid (grown_trans' G1.out g2)
       have O2 := Lib.hid (OwnB.none_ O1.out g2)
       have TK2 := Lib.hid True.intro
       clear r2 g2)
    | (go_at_call 12
       have hx := TK2
       clear hx TK2
       refine (feed_any (R2.out.made (grown_alloc w2 _ none)) ok_ts0 (by rw [World.size_alloc]; have := G2.out.size; omega) _ [97, 255] 2 2 rfl (rb2m _ _ _ 97 255 _ _ rfl rfl) (RD.apart (R2.out) (Nat.le_refl _)) (by omega)).mono ?_
       rintro e w3 ⟨pv3, vf3, vs3, rfl, r3, o3, m3, n3, u3⟩
       rw [sp1.1] at r3 ⊢
       rw [sp1.2] at o3
       obtain ⟨A3, c3, rfl, -, -⟩ := o3.shape
       have R3 := Lib.hid r3
       have P3 := Lib.hid o3
       have U3 := Lib.hid (fun u hu g hg => (u3 u hu g hg).2)
       have G3 := Lib.hid (none_feed (grown_trans' G2.out (grown_alloc w2 _ none)) (R2.out.made (grown_alloc w2 _ none)) (Nat.le_refl _) m3)
       have O3 := Lib.hid ((OwnB.none_ O2.out (grown_alloc w2 _ none)).later (R2.out.made (grown_alloc w2 _ none)) (fun g _ e => by simp [Value.ownBlock] at e) m3)
       have PO := Lib.hid (show ∀ g, (Value.slice A1 3 c1).ownBlock = some g → pv3.ownBlock ≠ some g from fun g hg e => by
         have h1 := (O2.out.lt g hg).2
         rcases n3 g e with h | h
         · simp [Value.ownBlock] at h
         · rw [World.size_alloc] at h; omega)
       have TK3 := Lib.hid True.intro
       clear r3 o3 m3 n3 u3)
    | (go_at_call 12
       have hx := TK3
       clear hx TK3
       refine (feed_any (R3.out.made (grown_alloc w3 _ none)) ok1 (by rw [World.size_alloc]; have := G3.out.size; omega) _ [255, 98] 2 2 rfl (rb2m _ _ _ 255 98 _ _ rfl rfl) (RD.apart (R3.out) (Nat.le_refl _)) (by omega)).mono ?_
       rintro e w4 ⟨pv4, vf4, vs4, rfl, r4, o4, m4, -, -⟩
       rw [sp2.1]
       rw [sp2.2] at o4
       obtain ⟨A4, c4, rfl, p4, -⟩ := o4.shape
       have R3a := R3.out.made (grown_alloc w3 (.cells #[.int .u8 255, .int .u8 98] 5 (2, 3)) none)
       have G4 := Lib.hid (none_feed (grown_trans' G3.out (grown_alloc w3 _ none)) R3a (Nat.le_refl _) m4)
       have o5 := (OwnB.none_ O3.out (grown_alloc w3 (.cells #[.int .u8 255, .int .u8 98] 5 (2, 3)) none)).later R3a PO.out m4
       have p5 := (P3.out.none_ (grown_alloc w3 (.cells #[.int .u8 255, .int .u8 98] 5 (2, 3)) none)).later R3a U3.out m4
       obtain ⟨A5, c5, e5, r5, -⟩ := o5.shape
       injection e5 with e5 _ e6
       subst e5 e6
       obtain ⟨A6, c6, e7, q5, -⟩ := p5.shape
       injection e7 with e7 _ e8
       subst e7 e8
       have q1 : (convert 22 9 (.slice A1 3 c1)).run Try.prog w4 = .ok (.string ⟨#[97, 255, 255]⟩) w4 := run_strB byteT strTy r5
       obtain ⟨b3, of3, rfl, hb3, hc3⟩ := q5.open_ (by simp)
       obtain ⟨-, -, -, V3, cv3, d3, h3⟩ := hc3 0 _ rfl
       have q2 : (convert 22 9 (.slice V3 1 cv3)).run Try.prog w4 = .ok (.string ⟨#[97]⟩) w4 := run_strB byteT strTy h3
       obtain ⟨b4, of4, rfl, hb4, hc4⟩ := p4.open_ (by simp)
       obtain ⟨-, -, -, V4, cv4, d4, h4⟩ := hc4 0 _ rfl
       have q3 : (convert 22 9 (.slice V4 2 cv4)).run Try.prog w4 = .ok (.string ⟨#[255, 98]⟩) w4 := run_strB byteT strTy h4
       simp only [Nat.zero_mul, Nat.add_zero, List.length_cons, List.length_nil, Nat.zero_add] at d3 d4
       have TK4 := Lib.hid True.intro
       clear r4 o4 m4 p4 R3a o5 p5 r5 q5 hb3 hc3 h3 hb4 hc4 h4 kc))
  go_ret
  exact ⟨rfl, G4.out⟩
end Go.Proofs.Ytcfhpoigfkljpaa
