/- The walk of TlvValues. -/
import Derived.Test.YtmkdcnhhcfblgaaRValW
namespace Go.Proofs.Ytmkdcnhhcfblgaa
open Go.RowKit

theorem intsInfo : (Try.prog.info? 3).map (fun i => (i.zero, i.size, i.bytes)) = some (some (.int .i64 0), 1, 8) := by kernel_rfl
section
variable {P : Program} {w : World} {ops : Array Oper} {rest : List Oper} {o : Oper} {a : Act} {Q : Exit → Act → World → Prop}
theorem wpList_appI {t e : TypeId} (ht : P.underlying t = some (.slice e)) (hinf : (P.info? e).map (fun i => (i.zero, i.size, i.bytes)) = some (some (.int .i64 0), 1, 8)) (hgd : o.guard = none) (s x : Operand)
    (ho : o.op = .call { callee := .builtin .append, args := #[s, x], argTypes := #[t, t] })
    {base : Nat} {v : Value} {l news : List Int} (hown : w.ownsRow base e 1 v l.length (icells l)) {B : Nat} {A : Option Addr} {c : Nat} (hr : RI w B A news c)
    (hs : a.eval s = v) (hx : a.eval x = .slice A news.length c) (hlen : l.length + news.length ≤ 1000000000) (hbase : base ≤ w.heap.size)
    (h : ∀ v' w', w'.ownsRow base e 1 v' (l ++ news).length (icells (l ++ news)) → w.grownBy w' v.ownBlock → wpList P ops Q rest (a.put o.dst v') w') : wpList P ops Q (o :: rest) a w := by
  refine wpList_plain hgd fun K hK => ?_
  obtain ⟨v', w', hrun, h2, h3⟩ := run_appI ht hinf o.type hown hr hlen hbase
  unfold Oper.wp execOp
  simp only [ho, resolve, invoke, builtin, Sem.run_bind, Sem.run_pure, Result.andThen_ok, List.map_toArray, List.map_cons, List.map_nil, hs, hx, hrun]
  exact hK _ _ (h v' w' h2 h3)
end
theorem ownI_new0 (w : World) (base : Nat) (t : TypeId) (hb : base ≤ w.heap.size) : (w.alloc (.cells #[] t)).ownsRow base t 1 (.slice (some ⟨w.heap.size, 0, none⟩) 0 0) ([] : List Int).length (icells []) :=
  ⟨rfl, .inr ⟨w.heap.size, 0, #[], rfl, hb, heap_alloc_new w _, Nat.le_refl _, by simp [maxLen], rfl, rfl⟩⟩
theorem ownI_shape {w : World} {base : Nat} {e : TypeId} {v : Value} {l : List Int} (h : w.ownsRow base e 1 v l.length (icells l)) : ∃ A cap, v = .slice A l.length cap ∧ RI w w.heap.size A l cap := by
  rcases h.2 with ⟨rfl, hl⟩ | ⟨g, cap, cur, rfl, hb, _⟩
  · have : l = [] := List.eq_nil_of_length_eq_zero hl
    subst this
    exact ⟨none, 0, rfl, RI.nil_ _ _⟩
  · exact ⟨some ⟨g, 0, none⟩, cap, rfl, RI.of_own h⟩

set_option maxHeartbeats 1000000 in
theorem walk_TlvValues (w : World) (A : Option Addr) (l : List UInt8) (cap : Nat) (h : RB w w.heap.size A l cap) (T : Option Addr) (ts : List Int) (tc : Nat) (hT : RI w w.heap.size T ts tc) :
    Calls Try.prog 6 #[.slice A l.length cap, .slice T ts.length tc] w fun e w' => e = .returned (.bool true) ∧ Below w.heap.size w w' := by
  have hl : l.length ≤ 9223372036854775807 := Nat.le_trans h.1 h.2.1
  have htl : ts.length ≤ 9223372036854775807 := Nat.le_trans hT.1 hT.2.1
  have H := Lib.hid h
  have HT := Lib.hid hT
  clear h hT
  by_cases h1 : 100000 < l.length
  · have h1' : (100000 : Int) < (l.length : Int) := by omega
    go_enter Try.func6, Try.ntmps6
    go_wp2_with (go_at_call 10; refine (speaks_any _).mono ?_; rintro e w1 ⟨rfl, hb1⟩)
    go_ret
    exact ⟨rfl, hb1⟩
  have h1' : ¬ (100000 : Int) < (l.length : Int) := by omega
  have h1d : decide ((100000 : Int) < (l.length : Int)) = false := by simpa using h1'
  by_cases h2 : 1000 < ts.length
  · have h2' : (1000 : Int) < (ts.length : Int) := by omega
    go_enter Try.func6, Try.ntmps6
    go_wp2_with (go_at_call 10; refine (speaks_any _).mono ?_; rintro e w1 ⟨rfl, hb1⟩)
    go_ret
    exact ⟨rfl, hb1⟩
  have h2' : ¬ (1000 : Int) < (ts.length : Int) := by omega
  have h2d : decide ((1000 : Int) < (ts.length : Int)) = false := by simpa using h2'
  have hv := fun W A' c h1 => fun T' c' h2 => values_any A' l c l.length T' ts c' ts.length W rfl rfl h1 h2 (by omega)
  have hrv := fun W h1 h2 => refValues_any A l cap l.length T ts tc ts.length W rfl rfl h1 h2 (by omega)
  have HV := Lib.hid hv
  have HRV := Lib.hid hrv
  clear hv hrv
  have hbe : ((valuesOf l ts).2 == (valuesOf l ts).2) = true := by simp
  go_enter Try.func6, Try.ntmps6
  go_wp2_with (first
    | (go_at_call 10; refine (speaks_any _).mono ?_; rintro e w1 ⟨rfl, hb1⟩)
    | (at_builtin; refine wpList_appB byteT rfl (.tmp 20) (.tmp 21) rfl (OwnB.new0 _ w.heap.size _ hb1.size) (H.out.below (hb1.alloc hb1.size _)) rfl rfl (by simp; omega) (by simp; have := hb1.size; omega) ?_; intro v2 w2 hown2 hg2 _ _; rw [List.nil_append] at hown2; have hb2 : Below w.heap.size w w2 := Below.grown (hb1.alloc hb1.size _) hg2 (by simp; have := hb1.size; omega) (fun k hk => by simp [Value.ownBlock] at hk; have := hb1.size; omega); obtain ⟨A2, c2, rfl, hr2, -⟩ := hown2.shape; have HR2 := Lib.hid hr2; clear hown2 hr2 hg2)
    | (at_builtin; refine wpList_appI Try.underlying39 intsInfo rfl (.tmp 23) (.tmp 24) rfl (ownI_new0 _ w.heap.size _ hb2.size) (HT.out.below (hb2.alloc hb2.size _)) rfl rfl (by simp; omega) (by simp; have := hb2.size; omega) ?_; intro v3 w3 hown3 hg3; rw [List.nil_append] at hown3; have hb3 : Below w2.heap.size w2 w3 := Below.grown ((Below.refl _ _).alloc (Nat.le_refl _) _) hg3 (by simp) (fun k hk => by simp [Value.ownBlock] at hk; omega); obtain ⟨A3, c3, rfl, hr3⟩ := ownI_shape hown3; have HR3 := Lib.hid hr3; clear hown3 hr3 hg3)
    | (go_at_call 19; refine (HV.out w3 A2 c2 ((HR2.out.below hb3).more hb3.size) A3 c3 HR3.out).mono ?_; rintro e w4 ⟨v4, rfl, hs4, hb4⟩; have hb5 := hb2.trans ((hb3.mono hb2.size).trans (hb4.mono (Nat.le_trans hb2.size hb3.size))); have HS4 := Lib.hid hs4; clear hs4)
    | (go_at_call 20; refine (HRV.out w4 ((H.out.below hb5).more hb5.size) ((HT.out.below hb5).more hb5.size)).mono ?_; rintro e w6 ⟨v6, rfl, hs6, hb6⟩; have HS6 := Lib.hid hs6; clear hs6)
    | (go_at_call 21; refine (sameTexts_any _ _ (valuesOf l ts).1 _ (HS4.out.below hb6) HS6.out).mono ?_; rintro e w7 ⟨rfl, hb7⟩))
  go_ret
  exact ⟨rfl, (hb5.trans (hb6.mono hb5.size)).trans (hb7.mono (Nat.le_trans hb5.size hb6.size))⟩
end Go.Proofs.Ytmkdcnhhcfblgaa
