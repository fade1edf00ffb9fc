/- The small walks of the document's ticket: names, times, rightness, numbers' fields, numbers, keys, RightAuth, values. -/
import Derived.Test.YthgejidimnbplaaGreatDoorTkm
import Derived.Test.YthgejidimnbplaaGreatDoorRpa
import Derived.Test.YthgejidimnbplaaGreatDoorTks
namespace Go.Proofs.YthgejidimnbplaaGreatDoor
open Go.RowKit

theorem refNamed_any (s : ByteArray) (l : List UInt8) (hl : s.data.toList = l) (w : World) (hs : l.length ≤ 10000) :
    Calls Tryz.prog 15 #[.string s] w fun e w' => e = .returned (.bool (parses l)) ∧ w.grownBy w' none := by
  have HL := Lib.hid hl
  have HS := Lib.hid hs
  cases hp : parses l with
  | true =>
    have HP := Lib.hid hp
    clear hl hs hp
    go_enter Tryz.func15, Tryz.ntmps15
    go_wp2_with (first
      | (go_at_call 30; refine (refParse_any s l HL.out _ HS.out).mono ?_; intro e w1 h1; rw [RefParsed, if_pos HP.out] at h1; obtain ⟨A, n, c, ls, r, rfl, -, -, -, -, -, hb⟩ := h1; have G1 := Lib.hid (none_of_below hb (Nat.le_refl _)); clear hb)
      | refine wpList_allocC zeroN_run rfl rfl ?_
      | (refine wpList_storeC (off := 0) (p := [.slice A n c, .string r]) aggN.hi rfl (.tmp 3) (.tmp 8) rfl _ rfl (nm_one _ _ _ _) (CB.new w1 61 zeroN) rfl (Nat.le_refl _) (by first | rfl | go_simp) rfl ?_; intro w4 h4 g4; have G4 := Lib.hid (none_new (grown_trans' G1.out (grown_alloc w1 _ none)) g4 G1.out.size); clear h4 g4))
    go_ret
    exact ⟨rfl, G4.out⟩
  | false =>
    have HP := Lib.hid hp
    clear hl hs hp
    go_enter Tryz.func15, Tryz.ntmps15
    go_wp2_with (first
      | (go_at_call 30; refine (refParse_any s l HL.out _ HS.out).mono ?_; intro e w1 h1; rw [RefParsed, if_neg (by rw [HP.out]; simp)] at h1; obtain ⟨rfl, hb⟩ := h1; have G1 := Lib.hid (none_of_below hb (Nat.le_refl _)); clear hb)
      | refine wpList_allocC zeroN_run rfl rfl ?_
      | (refine wpList_storeC (off := 0) (p := [.slice none 0 0, .string ⟨#[]⟩]) aggN.hi rfl (.tmp 3) (.tmp 8) rfl _ rfl (nm_one _ _ _ _) (CB.new w1 61 zeroN) rfl (Nat.le_refl _) (by first | rfl | go_simp) rfl ?_; intro w4 h4 g4; have G4 := Lib.hid (none_new (grown_trans' G1.out (grown_alloc w1 _ none)) g4 G1.out.size); clear h4 g4))
    go_ret
    exact ⟨rfl, G4.out⟩

theorem lasts_spec (s e f : Int) : (spanOk s e && flagsOk f) = (decide (0 ≤ s) && (decide (s ≤ e) && (decide (e ≤ 1099511627776) && (decide (0 ≤ f) && decide (f ≤ 3))))) := by
  rw [Bool.eq_iff_iff]
  simp only [spanOk, timeOk, flagsOk, Bool.and_eq_true, decide_eq_true_eq]
  omega
theorem lastsRef_any (s e f : Int) (w : World) : Calls Tryz.prog 16 #[.int .i64 s, .int .i64 e, .int .i64 f] w fun r w' => r = .returned (.bool (spanOk s e && flagsOk f)) ∧ w = w' := by
  rw [lasts_spec]
  by_cases h1 : 0 ≤ s
  · have d1 : decide (0 ≤ s) = true := decide_eq_true h1
    by_cases h2 : s ≤ e
    · have d2 : decide (s ≤ e) = true := decide_eq_true h2
      by_cases h3 : e ≤ 1099511627776
      · have d3 : decide (e ≤ 1099511627776) = true := decide_eq_true h3
        by_cases h4 : 0 ≤ f
        · have d4 : decide (0 ≤ f) = true := decide_eq_true h4
          by_cases h5 : f ≤ 3
          · have d5 : decide (f ≤ 3) = true := decide_eq_true h5
            rw [d1, d2, d3, d4, d5]
            go_enter Tryz.func16, Tryz.ntmps16
            go_wp2
            go_ret
            exact ⟨rfl, rfl⟩
          · have d5 : decide (f ≤ 3) = false := decide_eq_false h5
            rw [d1, d2, d3, d4, d5]
            go_enter Tryz.func16, Tryz.ntmps16
            go_wp2
            go_ret
            exact ⟨rfl, rfl⟩
        · have d4 : decide (0 ≤ f) = false := decide_eq_false h4
          rw [d1, d2, d3, d4]
          go_enter Tryz.func16, Tryz.ntmps16
          go_wp2
          go_ret
          exact ⟨rfl, rfl⟩
      · have d3 : decide (e ≤ 1099511627776) = false := decide_eq_false h3
        rw [d1, d2, d3]
        go_enter Tryz.func16, Tryz.ntmps16
        go_wp2
        go_ret
        exact ⟨rfl, rfl⟩
    · have d2 : decide (s ≤ e) = false := decide_eq_false h2
      rw [d1, d2]
      go_enter Tryz.func16, Tryz.ntmps16
      go_wp2
      go_ret
      exact ⟨rfl, rfl⟩
  · have d1 : decide (0 ≤ s) = false := decide_eq_false h1
    rw [d1]
    go_enter Tryz.func16, Tryz.ntmps16
    go_wp2
    go_ret
    exact ⟨rfl, rfl⟩

/-- A number that is to be a time: one above 2^40 is below 0. -/
def timeN (n : Nat) : Int := if n > 1099511627776 then -1 else (n : Int)
theorem aOk_spec (lc : List UInt8) (ti : Int) : aOk lc ti = (parses lc && (decide (0 ≤ ti) && decide (ti ≤ 1099511627776))) := rfl
/-- The tags that a ticket asks for. -/
def tagsOf (first count : Nat) : List Int := (List.range count).map fun i => ((first + i : Nat) : Int)
theorem tagsOf_length (a b : Nat) : (tagsOf a b).length = b := by simp [tagsOf]
theorem tagsOf_succ (a k : Nat) : tagsOf a (k + 1) = tagsOf a k ++ [((a + k : Nat) : Int)] := by simp [tagsOf, List.range_succ]

theorem intInfo : (Tryz.prog.info? 3).map (fun i => (i.zero, i.size, i.bytes)) = some (some (.int .i64 0), 1, 8) := by kernel_rfl
theorem row_shape {w : World} {base : Nat} {e : TypeId} {v : Value} {n : Nat} {cs : List Value} (h : w.ownsRow base e 1 v n cs) : ∃ A c, v = .slice A n c := by
  rcases h.2 with ⟨hv, hl⟩ | ⟨g, cap', cur, hv, _⟩
  · exact ⟨_, _, by rw [hv, hl]⟩
  · exact ⟨_, _, hv⟩

section
variable {P : Program} {ops : Array Oper} {Q : Exit → Act → World → Prop} {rest : List Oper} {o : Oper} {a : Act} {w : World}
theorem wpList_appI {t e : TypeId} (ht : P.underlying t = some (.slice e)) (hinf : (P.info? e).map (fun i => (i.zero, i.size, i.bytes)) = some (some (.int .i64 0), 1, 8)) (hgd : o.guard = none) (s x : Operand)
    (ho : o.op = .call { callee := .builtin .append, args := #[s, x], argTypes := #[t, t] })
    {base : Nat} {v : Value} {l : List Int} (hown : w.ownsRow base e 1 v l.length (icells l)) {z : Int} {ad : Addr} {c : Nat} (hc1 : 1 ≤ c) (hcm : c ≤ maxLen) (hc : w.cell? ad = some (.int .i64 z)) (hb : ad.block < w.heap.size)
    (hs : a.eval s = v) (hx : a.eval x = .slice (some ad) 1 c) (hlen : l.length + 1 ≤ 1000000000) (hbase : base ≤ w.heap.size)
    (h : ∀ v' w', w'.ownsRow base e 1 v' (l ++ [z]).length (icells (l ++ [z])) → w.grownBy w' v.ownBlock → wpList P ops Q rest (a.put o.dst v') w') : wpList P ops Q (o :: rest) a w := by
  refine wpList_plain hgd fun K hK => ?_
  have hr : RI w w.heap.size (some ad) [z] c := ⟨hc1, hcm, .inr ⟨ad, rfl, fun k u hu => by
    match k, hu with
    | 0, hu =>
      injection hu with hu
      subst hu
      have hs : ad.add 0 = ad := by simp [Addr.add]
      rw [hs]
      exact ⟨hb, hc⟩
    | k + 1, hu => simp at hu⟩⟩
  obtain ⟨v', w', hrun, h2, h3⟩ := run_appI ht hinf o.type hown hr hlen hbase
  unfold Oper.wp execOp
  simp only [List.length_singleton] at hrun
  simp only [ho, resolve, invoke, builtin, Sem.run_bind, Sem.run_pure, Result.andThen_ok, List.map_toArray, List.map_cons, List.map_nil, hs, hx, hrun]
  exact hK _ _ (h v' w' h2 h3)
end

end Go.Proofs.YthgejidimnbplaaGreatDoor
