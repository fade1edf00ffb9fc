/- The small walks of the document's ticket: names, times, rightness, numbers' fields, numbers, keys, RightAuth, values. -/
import Derived.Test.YtejmbabeniekhaaDoorTkm
import Derived.Test.YtejmbabeniekhaaDoorRpa
import Derived.Test.YtejmbabeniekhaaDoorRJoF
namespace Go.Proofs.YtejmbabeniekhaaDoor
open Go.RowKit

theorem refNamed_any (s : ByteArray) (l : List UInt8) (hl : s.data.toList = l) (w : World) (hs : l.length ≤ 10000) :
    Calls Tryd.prog 58 #[.string s] w fun e w' => e = .returned (.bool (parses l)) ∧ w.grownBy w' none := by
  have HL := Lib.hid hl
  have HS := Lib.hid hs
  cases hp : parses l with
  | true =>
    have HP := Lib.hid hp
    clear hl hs hp
    go_enter Tryd.func58, Tryd.ntmps58
    go_wp2_with (first
      | (go_at_call 78; refine (refParse_any s l HL.out _ HS.out).mono ?_; intro e w1 h1; rw [RefParsed, if_pos HP.out] at h1; obtain ⟨A, n, c, ls, r, rfl, -, -, -, -, -, hb⟩ := h1; have G1 := Lib.hid (none_of_below hb (Nat.le_refl _)); clear hb)
      | refine wpList_allocC zeroN_run rfl rfl ?_
      | (refine wpList_storeC (off := 0) (p := [.slice A n c, .string r]) aggN.hi rfl (.tmp 3) (.tmp 8) rfl _ rfl (nm_one _ _ _ _) (CB.new w1 138 zeroN) rfl (Nat.le_refl _) (by first | rfl | go_simp) rfl ?_; intro w4 h4 g4; have G4 := Lib.hid (none_new (grown_trans' G1.out (grown_alloc w1 _ none)) g4 G1.out.size); clear h4 g4))
    go_ret
    exact ⟨rfl, G4.out⟩
  | false =>
    have HP := Lib.hid hp
    clear hl hs hp
    go_enter Tryd.func58, Tryd.ntmps58
    go_wp2_with (first
      | (go_at_call 78; refine (refParse_any s l HL.out _ HS.out).mono ?_; intro e w1 h1; rw [RefParsed, if_neg (by rw [HP.out]; simp)] at h1; obtain ⟨rfl, hb⟩ := h1; have G1 := Lib.hid (none_of_below hb (Nat.le_refl _)); clear hb)
      | refine wpList_allocC zeroN_run rfl rfl ?_
      | (refine wpList_storeC (off := 0) (p := [.slice none 0 0, .string ⟨#[]⟩]) aggN.hi rfl (.tmp 3) (.tmp 8) rfl _ rfl (nm_one _ _ _ _) (CB.new w1 138 zeroN) rfl (Nat.le_refl _) (by first | rfl | go_simp) rfl ?_; intro w4 h4 g4; have G4 := Lib.hid (none_new (grown_trans' G1.out (grown_alloc w1 _ none)) g4 G1.out.size); clear h4 g4))
    go_ret
    exact ⟨rfl, G4.out⟩

theorem lasts_spec (s e f : Int) : (spanOk s e && flagsOk f) = (decide (0 ≤ s) && (decide (s ≤ e) && (decide (e ≤ 1099511627776) && (decide (0 ≤ f) && decide (f ≤ 3))))) := by
  rw [Bool.eq_iff_iff]
  simp only [spanOk, timeOk, flagsOk, Bool.and_eq_true, decide_eq_true_eq]
  omega
theorem lastsRef_any (s e f : Int) (w : World) : Calls Tryd.prog 84 #[.int .i64 s, .int .i64 e, .int .i64 f] w fun r w' => r = .returned (.bool (spanOk s e && flagsOk f)) ∧ w = w' := by
  rw [lasts_spec]
  by_cases h1 : 0 ≤ s
  · have d1 : decide (0 ≤ s) = true := decide_eq_true h1
    by_cases h2 : s ≤ e
    · have d2 : decide (s ≤ e) = true := decide_eq_true h2
      by_cases h3 : e ≤ 1099511627776
      · have d3 : decide (e ≤ 1099511627776) = true := decide_eq_true h3
        by_cases h4 : 0 ≤ f
        · have d4 : decide (0 ≤ f) = true := decide_eq_true h4
          by_cases h5 : f ≤ 3
          · have d5 : decide (f ≤ 3) = true := decide_eq_true h5
            rw [d1, d2, d3, d4, d5]
            go_enter Tryd.func84, Tryd.ntmps84
            go_wp2
            go_ret
            exact ⟨rfl, rfl⟩
          · have d5 : decide (f ≤ 3) = false := decide_eq_false h5
            rw [d1, d2, d3, d4, d5]
            go_enter Tryd.func84, Tryd.ntmps84
            go_wp2
            go_ret
            exact ⟨rfl, rfl⟩
        · have d4 : decide (0 ≤ f) = false := decide_eq_false h4
          rw [d1, d2, d3, d4]
          go_enter Tryd.func84, Tryd.ntmps84
          go_wp2
          go_ret
          exact ⟨rfl, rfl⟩
      · have d3 : decide (e ≤ 1099511627776) = false := decide_eq_false h3
        rw [d1, d2, d3]
        go_enter Tryd.func84, Tryd.ntmps84
        go_wp2
        go_ret
        exact ⟨rfl, rfl⟩
    · have d2 : decide (s ≤ e) = false := decide_eq_false h2
      rw [d1, d2]
      go_enter Tryd.func84, Tryd.ntmps84
      go_wp2
      go_ret
      exact ⟨rfl, rfl⟩
  · have d1 : decide (0 ≤ s) = false := decide_eq_false h1
    rw [d1]
    go_enter Tryd.func84, Tryd.ntmps84
    go_wp2
    go_ret
    exact ⟨rfl, rfl⟩

/-- A number that is to be a time: one above 2^40 is below 0. -/
def timeN (n : Nat) : Int := if n > 1099511627776 then -1 else (n : Int)
theorem aOk_spec (lc : List UInt8) (ti : Int) : aOk lc ti = (parses lc && (decide (0 ≤ ti) && decide (ti ≤ 1099511627776))) := rfl
/-- The tags that a ticket asks for. -/
def tagsOf (first count : Nat) : List Int := (List.range count).map fun i => ((first + i : Nat) : Int)
theorem tagsOf_length (a b : Nat) : (tagsOf a b).length = b := by simp [tagsOf]
theorem tagsOf_succ (a k : Nat) : tagsOf a (k + 1) = tagsOf a k ++ [((a + k : Nat) : Int)] := by simp [tagsOf, List.range_succ]

theorem intInfo : (Tryd.prog.info? 3).map (fun i => (i.zero, i.size, i.bytes)) = some (some (.int .i64 0), 1, 8) := by kernel_rfl
theorem row_shape {w : World} {base : Nat} {e : TypeId} {v : Value} {n : Nat} {cs : List Value} (h : w.ownsRow base e 1 v n cs) : ∃ A c, v = .slice A n c := by
  rcases h.2 with ⟨hv, hl⟩ | ⟨g, cap', cur, hv, _⟩
  · exact ⟨_, _, by rw [hv, hl]⟩
  · exact ⟨_, _, hv⟩

section
variable {P : Program} {ops : Array Oper} {Q : Exit → Act → World → Prop} {rest : List Oper} {o : Oper} {a : Act} {w : World}
theorem wpList_appI {t e : TypeId} (ht : P.underlying t = some (.slice e)) (hinf : (P.info? e).map (fun i => (i.zero, i.size, i.bytes)) = some (some (.int .i64 0), 1, 8)) (hgd : o.guard = none) (s x : Operand)
    (ho : o.op = .call { callee := .builtin .append, args := #[s, x], argTypes := #[t, t] })
    {base : Nat} {v : Value} {l : List Int} (hown : w.ownsRow base e 1 v l.length (icells l)) {z : Int} {ad : Addr} {c : Nat} (hc1 : 1 ≤ c) (hcm : c ≤ maxLen) (hc : w.cell? ad = some (.int .i64 z)) (hb : ad.block < w.heap.size)
    (hs : a.eval s = v) (hx : a.eval x = .slice (some ad) 1 c) (hlen : l.length + 1 ≤ 1000000000) (hbase : base ≤ w.heap.size)
    (h : ∀ v' w', w'.ownsRow base e 1 v' (l ++ [z]).length (icells (l ++ [z])) → w.grownBy w' v.ownBlock → wpList P ops Q rest (a.put o.dst v') w') : wpList P ops Q (o :: rest) a w := by
  refine wpList_plain hgd fun K hK => ?_
  have hr : RI w w.heap.size (some ad) [z] c := ⟨hc1, hcm, .inr ⟨ad, rfl, fun k u hu => by
    match k, hu with
    | 0, hu =>
      injection hu with hu
      subst hu
      have hs : ad.add 0 = ad := by simp [Addr.add]
      rw [hs]
      exact ⟨hb, hc⟩
    | k + 1, hu => simp at hu⟩⟩
  obtain ⟨v', w', hrun, h2, h3⟩ := run_appI ht hinf o.type hown hr hlen hbase
  unfold Oper.wp execOp
  simp only [List.length_singleton] at hrun
  simp only [ho, resolve, invoke, builtin, Sem.run_bind, Sem.run_pure, Result.andThen_ok, List.map_toArray, List.map_cons, List.map_nil, hs, hx, hrun]
  exact hK _ _ (h v' w' h2 h3)
end

end Go.Proofs.YtejmbabeniekhaaDoor
namespace Go.Proofs.YtejmbabeniekhaaDoor
open Go.RowKit

/-- What the document's ones that write answer. -/
def WroteR (w : World) (ok : Bool) (b : List UInt8) (e : Ending) (w' : World) : Prop :=
  w.grownBy w' none ∧ if ok = true then ∃ v, e = .returned (.tuple #[v, .int .i64 0]) ∧ IsB w' v b else ∃ v, e = .returned (.tuple #[v, .int .i64 1]) ∧ IsB w' v []
theorem WroteR.no {w w' : World} {v : Value} {b : List UInt8} (h : IsB w' v []) (hg : w.grownBy w' none) : WroteR w false b (.returned (.tuple #[v, .int .i64 1])) w' := ⟨hg, by rw [if_neg (by simp)]; exact ⟨v, rfl, h⟩⟩
theorem WroteR.yes {w w' : World} {v : Value} {b : List UInt8} (h : IsB w' v b) (hg : w.grownBy w' none) : WroteR w true b (.returned (.tuple #[v, .int .i64 0])) w' := ⟨hg, by rw [if_pos rfl]; exact ⟨v, rfl, h⟩⟩
theorem fieldN_any (t : Int) (V : Option Addr) (v : List UInt8) (c n : Nat) (w : World) (h1 : 1 ≤ t) (h2 : t ≤ 255) (h3 : n ≤ 65535) (hn : v.length = n) (h : RB w w.heap.size V v c) :
    Calls Tryd.prog 47 #[.int .i64 t, .slice V n c] w fun e w' => ∃ u, e = .returned u ∧ OwnB w' w.heap.size 5 u (fieldB (t, v)) ∧ Below w.heap.size w w' := by
  subst hn
  exact field_any t V v c w h1 h2 h3 h

end Go.Proofs.YtejmbabeniekhaaDoor
namespace Go.Proofs.YtejmbabeniekhaaDoor
open Go.RowKit

theorem numB_back {v : List UInt8} (h : (readOf v).2 = true) : numB (readOf v).1 = v := by
  have h1 : readOf v = (numOf v, true) := by
    unfold readOf at h ⊢
    split
    · rfl
    · rename_i h2; rw [if_neg h2] at h; simp at h
  rw [h1]
  exact numB_numOf v h1
theorem zip_map : ∀ (fs : List Fd), (fs.map (·.1)).zip (fs.map (·.2)) = fs
  | [] => rfl
  | (a, b) :: fs => by simp [zip_map fs]
theorem valuesOf_bytes {l : List UInt8} {ts : List Int} {vs : List (List UInt8)} (h : valuesOf l ts = (vs, 0)) : l = bytesF (ts.zip vs) := by
  unfold valuesOf at h
  split at h
  · rename_i h1
    simp only [Prod.mk.injEq] at h
    exact absurd h.2 h1
  · rename_i h1
    split at h
    · rename_i h2
      have h0 : (splitOf l).2 = 0 := by simpa using h1
      simp only [Prod.mk.injEq, and_true] at h
      have hj := joinOf_splitOf l h0
      have hf := (joinOf_flat (splitOf l).1 [] (by rw [hj])).1
      rw [hj] at hf
      rw [← h, ← h2, zip_map, bytesF]
      simpa using hf
    · simp at h
theorem timeN_le {n : Nat} (h : 0 ≤ timeN n) : n ≤ 1099511627776 := by
  unfold timeN at h
  split at h <;> omega
theorem timeN_i64 {n : Nat} (h : 0 ≤ timeN n) : i64w n = timeN n := by
  have h1 := timeN_le h
  rw [i64w_small _ h1, timeN, if_neg (by omega)]
theorem timeN_nat {n : Nat} (h : 0 ≤ timeN n) : (i64w n).toNat = n := by
  rw [i64w_small _ (timeN_le h)]
  omega
theorem timeN_small {n : Nat} (h : n ≤ 1099511627776) : timeN n = (n : Int) := by rw [timeN, if_neg (by omega)]

/-! t -/
theorem tReads_doc {l v0 v1 v2 v3 v4 v5 : List UInt8} (hv : valuesOf l [1, 2, 3, 4, 5, 6] = ([v0, v1, v2, v3, v4, v5], 0)) :
    tReads l = ((readOf v3).2 && ((readOf v4).2 && ((readOf v5).2 && (decide (v2.length = 16) && (tOk v0 v1 (timeN (readOf v3).1) (timeN (readOf v4).1) (timeN (readOf v5).1)))))) := by
  have hb : l = bytesF [(1, v0), (2, v1), (3, v2), (4, v3), (5, v4), (6, v5)] := valuesOf_bytes hv
  rw [Bool.eq_iff_iff]
  simp only [tReads, tVals, hv, tOkV, tBytesV, List.getD_cons_zero, List.getD_cons_succ, Bool.and_eq_true, decide_eq_true_eq, true_and]
  constructor
  · rintro ⟨ho, hy⟩
    have hi := tOk_int ho
    have hvv := tVals_back ho (keyB_length v2)
    rw [hy, hv] at hvv
    simp only [Prod.mk.injEq, List.cons.injEq, and_true, true_and] at hvv
    obtain ⟨h2, h3, h4, h5⟩ := hvv
    have r3 := readOf_numB (i64w (readOf v3).1).toNat (by omega)
    rw [← h3] at r3
    have n3 : (readOf v3).1 = (i64w (readOf v3).1).toNat := congrArg Prod.fst r3
    have t3 : timeN (readOf v3).1 = i64w (readOf v3).1 := by rw [timeN_small (by omega)]; omega
    have r4 := readOf_numB (i64w (readOf v4).1).toNat (by omega)
    rw [← h4] at r4
    have n4 : (readOf v4).1 = (i64w (readOf v4).1).toNat := congrArg Prod.fst r4
    have t4 : timeN (readOf v4).1 = i64w (readOf v4).1 := by rw [timeN_small (by omega)]; omega
    have r5 := readOf_numB (i64w (readOf v5).1).toNat (by omega)
    rw [← h5] at r5
    have n5 : (readOf v5).1 = (i64w (readOf v5).1).toNat := congrArg Prod.fst r5
    have t5 : timeN (readOf v5).1 = i64w (readOf v5).1 := by rw [timeN_small (by omega)]; omega
    refine ⟨congrArg Prod.snd r3, congrArg Prod.snd r4, congrArg Prod.snd r5, by rw [h2, keyB_length], by rw [t3, t4, t5]; exact ho⟩
  · rintro ⟨k3, k4, k5, hk, ho⟩
    have hi := tOk_int ho
    refine ⟨by rw [timeN_i64 (n := (readOf v3).1) (by omega), timeN_i64 (n := (readOf v4).1) (by omega), timeN_i64 (n := (readOf v5).1) (by omega)]; exact ho, ?_⟩
    rw [timeN_nat (n := (readOf v3).1) (by omega), timeN_nat (n := (readOf v4).1) (by omega), timeN_nat (n := (readOf v5).1) (by omega), keyB_self v2 hk, tFields, numB_back k3, numB_back k4, numB_back k5, hb]
theorem tMade_doc {v0 v1 v2 v3 v4 v5 : List UInt8} (ho : tOk v0 v1 (timeN (readOf v3).1) (timeN (readOf v4).1) (timeN (readOf v5).1) = true) : tMade [v0, v1, v2, v3, v4, v5] = tcells (ba v0) (ba v1) (keyB v2) (timeN (readOf v3).1) (timeN (readOf v4).1) (timeN (readOf v5).1) := by
  have hi := tOk_int ho
  show tcells (ba v0) (ba v1) (keyB v2) (i64w (readOf v3).1) (i64w (readOf v4).1) (i64w (readOf v5).1) = _
  rw [timeN_i64 (n := (readOf v3).1) (by omega), timeN_i64 (n := (readOf v4).1) (by omega), timeN_i64 (n := (readOf v5).1) (by omega)]

/-! a -/
theorem aReads_doc {l v0 v1 v2 v3 : List UInt8} (hv : valuesOf l [11, 12, 13, 14] = ([v0, v1, v2, v3], 0)) :
    aReads l = ((readOf v1).2 && ((readOf v2).2 && (decide (v3.length = 16) && (aOk v0 (timeN (readOf v1).1))))) := by
  have hb : l = bytesF [(11, v0), (12, v1), (13, v2), (14, v3)] := valuesOf_bytes hv
  rw [Bool.eq_iff_iff]
  simp only [aReads, aVals, hv, aOkV, aBytesV, List.getD_cons_zero, List.getD_cons_succ, Bool.and_eq_true, decide_eq_true_eq, true_and]
  constructor
  · rintro ⟨ho, hy⟩
    have hi := aOk_int ho
    have hvv := aVals_back ho (keyB_length v3) (no := (readOf v2).1)
    rw [hy, hv] at hvv
    simp only [Prod.mk.injEq, List.cons.injEq, and_true, true_and] at hvv
    obtain ⟨h1, h2, h3⟩ := hvv
    have r1 := readOf_numB (i64w (readOf v1).1).toNat (by omega)
    rw [← h1] at r1
    have n1 : (readOf v1).1 = (i64w (readOf v1).1).toNat := congrArg Prod.fst r1
    have t1 : timeN (readOf v1).1 = i64w (readOf v1).1 := by rw [timeN_small (by omega)]; omega
    have r2 := readOf_numB (readOf v2).1 (readOf_lt v2)
    rw [← h2] at r2
    refine ⟨congrArg Prod.snd r1, congrArg Prod.snd r2, by rw [h3, keyB_length], by rw [t1]; exact ho⟩
  · rintro ⟨k1, k2, hk, ho⟩
    have hi := aOk_int ho
    refine ⟨by rw [timeN_i64 (n := (readOf v1).1) (by omega)]; exact ho, ?_⟩
    rw [timeN_nat (n := (readOf v1).1) (by omega), keyB_self v3 hk, aFields, numB_back k1, numB_back k2, hb]
theorem aMade_doc {v0 v1 v2 v3 : List UInt8} (ho : aOk v0 (timeN (readOf v1).1) = true) : aMade [v0, v1, v2, v3] = acells (ba v0) (keyB v3) (timeN (readOf v1).1) ((readOf v2).1 : Int) := by
  have hi := aOk_int ho
  show acells (ba v0) (keyB v3) (i64w (readOf v1).1) ((readOf v2).1 : Int) = _
  rw [timeN_i64 (n := (readOf v1).1) (by omega)]

/-! g -/
theorem gReads_doc {l v0 v1 v2 v3 v4 v5 : List UInt8} (hv : valuesOf l [21, 22, 23, 24, 25, 26] = ([v0, v1, v2, v3, v4, v5], 0)) :
    gReads l = ((readOf v2).2 && ((readOf v3).2 && ((readOf v4).2 && ((readOf v5).2 && (decide (v1.length = 16) && (gOk v0 (timeN (readOf v3).1) (timeN (readOf v4).1) (timeN (readOf v5).1))))))) := by
  have hb : l = bytesF [(21, v0), (22, v1), (23, v2), (24, v3), (25, v4), (26, v5)] := valuesOf_bytes hv
  rw [Bool.eq_iff_iff]
  simp only [gReads, gVals, hv, gOkV, gBytesV, List.getD_cons_zero, List.getD_cons_succ, Bool.and_eq_true, decide_eq_true_eq, true_and]
  constructor
  · rintro ⟨ho, hy⟩
    have hi := gOk_int ho
    have hvv := gVals_back ho (keyB_length v1) (no := (readOf v2).1)
    rw [hy, hv] at hvv
    simp only [Prod.mk.injEq, List.cons.injEq, and_true, true_and] at hvv
    obtain ⟨h1, h2, h3, h4, h5⟩ := hvv
    have r3 := readOf_numB (i64w (readOf v3).1).toNat (by omega)
    rw [← h3] at r3
    have n3 : (readOf v3).1 = (i64w (readOf v3).1).toNat := congrArg Prod.fst r3
    have t3 : timeN (readOf v3).1 = i64w (readOf v3).1 := by rw [timeN_small (by omega)]; omega
    have r4 := readOf_numB (i64w (readOf v4).1).toNat (by omega)
    rw [← h4] at r4
    have n4 : (readOf v4).1 = (i64w (readOf v4).1).toNat := congrArg Prod.fst r4
    have t4 : timeN (readOf v4).1 = i64w (readOf v4).1 := by rw [timeN_small (by omega)]; omega
    have r5 := readOf_numB (i64w (readOf v5).1).toNat (by omega)
    rw [← h5] at r5
    have n5 : (readOf v5).1 = (i64w (readOf v5).1).toNat := congrArg Prod.fst r5
    have t5 : timeN (readOf v5).1 = i64w (readOf v5).1 := by rw [timeN_small (by omega)]; omega
    have r2 := readOf_numB (readOf v2).1 (readOf_lt v2)
    rw [← h2] at r2
    refine ⟨congrArg Prod.snd r2, congrArg Prod.snd r3, congrArg Prod.snd r4, congrArg Prod.snd r5, by rw [h1, keyB_length], by rw [t3, t4, t5]; exact ho⟩
  · rintro ⟨k2, k3, k4, k5, hk, ho⟩
    have hi := gOk_int ho
    refine ⟨by rw [timeN_i64 (n := (readOf v3).1) (by omega), timeN_i64 (n := (readOf v4).1) (by omega), timeN_i64 (n := (readOf v5).1) (by omega)]; exact ho, ?_⟩
    rw [timeN_nat (n := (readOf v3).1) (by omega), timeN_nat (n := (readOf v4).1) (by omega), timeN_nat (n := (readOf v5).1) (by omega), keyB_self v1 hk, gFields, numB_back k2, numB_back k3, numB_back k4, numB_back k5, hb]
theorem gMade_doc {v0 v1 v2 v3 v4 v5 : List UInt8} (ho : gOk v0 (timeN (readOf v3).1) (timeN (readOf v4).1) (timeN (readOf v5).1) = true) : gMade [v0, v1, v2, v3, v4, v5] = gcells (ba v0) (keyB v1) ((readOf v2).1 : Int) (timeN (readOf v3).1) (timeN (readOf v4).1) (timeN (readOf v5).1) := by
  have hi := gOk_int ho
  show gcells (ba v0) (keyB v1) ((readOf v2).1 : Int) (i64w (readOf v3).1) (i64w (readOf v4).1) (i64w (readOf v5).1) = _
  rw [timeN_i64 (n := (readOf v3).1) (by omega), timeN_i64 (n := (readOf v4).1) (by omega), timeN_i64 (n := (readOf v5).1) (by omega)]
end Go.Proofs.YtejmbabeniekhaaDoor
