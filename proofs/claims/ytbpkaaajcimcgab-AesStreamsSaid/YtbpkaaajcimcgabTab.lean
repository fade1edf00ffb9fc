/- The walk of substitutes: the table of SubBytes. -/
import Derived.Test.YtbpkaaajcimcgabBlo
namespace Go.Proofs.Ytbpkaaajcimcgab
open Go.RowKit

theorem arr256 : ArrT Try.prog 38 5 256 := ⟨Try.underlying38, by kernel_rfl⟩

/-- n noughts. -/
def zeros (n : Nat) : List UInt8 := List.replicate n 0
theorem zeros_length (n : Nat) : (zeros n).length = n := by simp [zeros]
theorem zeros_at (n i : Nat) (h : i < n) : (zeros n)[i]? = some 0 := by rw [zeros, List.getElem?_replicate, if_pos h]

section
variable {P : Program} {w : World} {ops : Array Oper} {rest : List Oper} {o : Oper} {a : Act} {Q : Exit → Act → World → Prop} {ty : TypeId} {n : Nat}
theorem run_allocB (hz : ∀ w, (zeroValue ty).run P w = .ok (.agg (bcells (zeros n)).toArray) w) (w : World) :
    (Instr.alloc ty true (.tuple #[])).run P w = .ok (.pointer (some ⟨w.heap.size, 0, none⟩)) (w.alloc (.cells (bcells (zeros n)).toArray ty)) := by
  simp [Instr.alloc, hz, newVar, newRow, Value.cells]
theorem wpList_allocB (hz : ∀ w, (zeroValue ty).run P w = .ok (.agg (bcells (zeros n)).toArray) w) (hgd : o.guard = none) (ho : o.op = .alloc ty)
    (hk : wpList P ops Q rest (a.put o.dst (.pointer (some ⟨w.heap.size, 0, none⟩))) (w.alloc (.cells (bcells (zeros n)).toArray ty))) : wpList P ops Q (o :: rest) a w := by
  refine wpList_plain hgd fun K hK => ?_
  unfold Oper.wp execOp
  simp only [ho, Sem.run_bind, run_allocB hz w, Result.andThen_ok, Sem.run_pure]
  exact hK _ _ hk
end
theorem zero256 (w : World) : (zeroValue 38).run Try.prog w = .ok (.agg (bcells (zeros 256)).toArray) w := by kernel_rfl

/-- The k-th power of 3. -/
def pw : Nat → UInt8
  | 0 => 1
  | k + 1 => pw k ^^^ dbl (pw k)
/-- The powers of 3, the first n laid. -/
def powTo (n : Nat) : List UInt8 := (List.range 256).map fun i => if i ≤ n then pw i else 0
theorem powTo_length (n : Nat) : (powTo n).length = 256 := by simp [powTo]
theorem powTo_at (n i : Nat) (hi : i < 256) : (powTo n)[i]? = some (if i ≤ n then pw i else 0) := by
  rw [powTo, List.getElem?_map, List.getElem?_range hi]
  rfl
theorem powTo_zero : (zeros 256).set 0 1 = powTo 0 := by decide +kernel
theorem powTo_set (n : Nat) : (powTo n).set (n + 1) (pw (n + 1)) = powTo (n + 1) := by
  apply List.ext_getElem?
  intro i
  rw [List.getElem?_set]
  by_cases hi : i < 256
  · rw [powTo_at _ _ hi, powTo_at _ _ hi, powTo_length]
    by_cases e : n + 1 = i
    · subst e
      rw [if_pos rfl, if_pos (by omega), if_pos (Nat.le_refl _)]
    · rw [if_neg e]
      by_cases h : i ≤ n
      · rw [if_pos h, if_pos (by omega)]
      · rw [if_neg h, if_neg (by omega)]
  · rw [List.getElem?_eq_none (l := powTo (n + 1)) (by rw [powTo_length]; omega), powTo_length, List.getElem?_eq_none (l := powTo n) (by rw [powTo_length]; omega)]
    by_cases e : n + 1 = i
    · rw [if_pos e, if_neg (by omega)]
    · rw [if_neg e]
theorem bcells_set (l : List UInt8) (i : Nat) (u : UInt8) : bcells (l.set i u) = (bcells l).set i (.int .u8 (u.toNat : Int)) := by simp [bcells, List.map_set]
/-- The table, behind n rounds. -/
def subTo : Nat → List UInt8
  | 0 => (zeros 256).set 0 (mixB 0)
  | n + 1 => (subTo n).set (pw n).toNat (mixB (pw (255 - n)))
theorem subTo_length : ∀ n, (subTo n).length = 256
  | 0 => by rw [subTo, List.length_set, zeros_length]
  | n + 1 => by rw [subTo, List.length_set, subTo_length n]
def subT : List UInt8 := subTo 255
theorem subT_length : subT.length = 256 := subTo_length 255

set_option maxRecDepth 10000 in
set_option maxHeartbeats 1000000 in
theorem substitutes_any (w : World) :
    Calls Try.prog 15 #[] w fun e w' => e = .returned (.agg (bcells subT).toArray) ∧ Below w.heap.size w w' := by
  have hb1 : ∀ (W : World), BB (W.alloc (.cells (bcells (zeros 256)).toArray 38)) W.heap.size 38 (zeros 256) := fun W => BB.new W _ _
  have HB1 := Lib.hid hb1
  clear hb1
  have c0 : ∀ W : World, (W.alloc (.cells (bcells (zeros 256)).toArray 38)).cell? ⟨W.heap.size, 0, none⟩ = some (.int .u8 0) := fun W => (HB1.out W).at_ (zeros_at 256 0 (by omega))
  have f0 : ∀ W : World, (W.alloc (.cells (bcells (zeros 256)).toArray 38)).frozen? ⟨W.heap.size, 0, none⟩ = false := fun W => (HB1.out W).free 0
  have d0 := c0 (w.alloc (.cells (bcells (zeros 256)).toArray 38))
  have g0 := f0 (w.alloc (.cells (bcells (zeros 256)).toArray 38))
  rw [World.size_alloc] at d0 g0
  clear c0 f0
  go_enter Try.func15, Try.ntmps15
  go_wp2_with (refine wpList_allocB zero256 rfl rfl ?_)
  have hp0 : BB ((w.alloc (.cells (bcells (zeros 256)).toArray 38)).alloc (.cells ((bcells (zeros 256)).set 0 (.int .u8 1)).toArray 38)) (w.heap.size + 1) 38 (powTo 0) := by
    unfold BB
    rw [heap_alloc2_new, ← powTo_zero, bcells_set]
    rfl
  have HP0 := Lib.hid hp0
  clear hp0 d0 g0
  go_loopw [6] (fun i wr => ∃ n : Nat, i = .int .i64 n ∧ n ≤ 255 ∧ BB wr (w.heap.size + 1) 38 (powTo n) ∧ BB wr w.heap.size 38 (zeros 256) ∧ Below w.heap.size w wr) (fun i _ => 255 - (intOf i).toNat)
  case atStart => exact ⟨0, rfl, by omega, HP0.out, heap_alloc2_old _ _ _, ((Below.refl _ _).alloc (Nat.le_refl _) _).alloc (by simp) _⟩
  case round =>
    obtain ⟨n, rfl, hn, hP, hR, hbel⟩ := hrel
    by_cases hlt : n < 255
    · obtain ⟨q, hq⟩ : ∃ q, q = n + 1 := ⟨_, rfl⟩
      have c1 := hP.at_ (powTo_at n n (by omega))
      rw [if_pos (Nat.le_refl _)] at c1
      have c2 := hP.at_ (powTo_at n q (by omega))
      have f2 := hP.free q
      have w1 : IntKind.i64.wrap ((n : Int) + 1) = (q : Int) := by rw [IntKind.wrap_i64]; omega
      have b1 : (n : Int) < 256 := by omega
      have b2 : (q : Int) < 256 := by omega
      have hki : (n : Int) < 255 := by omega
      have hx := xor_u8 (pw n) (dbl (pw n))
      rw [show pw n ^^^ dbl (pw n) = pw (n + 1) from rfl] at hx
      have hs : (powTo n).set q (pw (n + 1)) = powTo (n + 1) := by rw [hq]; exact powTo_set n
      have HN := Lib.hid (fun x hx => hs ▸ hP.drew.set_ q (pw (n + 1)) x hx)
      have hd : ∀ W, Calls Try.prog 24 #[.int .u8 ((pw n).toNat : Int)] W fun e w' => e = .returned (.int .u8 ((dbl (pw n)).toNat : Int)) ∧ w' = W := fun W => (double_any (pw n) W).mono fun _ _ h => ⟨h.1, h.2.symm⟩
      have HD := Lib.hid hd
      have HR := Lib.hid hR
      have HB := Lib.hid hbel
      clear hd hR hbel hP hq hs
      generalize (dbl (pw n)).toNat = y at *
      generalize (pw (n + 1)).toNat = z at *
      generalize (pw n).toNat = x at *
      go_wp2
      go_still_tail 11, (by kernel_rfl)
      still_call (HD.out _)
      repeat still_step
      refine wpStill_nil ?_
      clear w1
      change wpList _ _ _ _ _ wr.drew
      go_wp2
      go_roundw
      case rel => exact ⟨n + 1, by go_num, by omega, HN.out _ rfl, HR.out.drew.far (by simp) _, HB.out.drew.setCell (by simp) _⟩
      case measure => simp [intOf]; omega
    · obtain rfl : n = 255 := by omega
      have HP := Lib.hid hP
      have HR := Lib.hid hR
      have HB := Lib.hid hbel
      clear hR hbel hP
      go_wp2_with (first
        | refine wpList_allocB zero256 rfl rfl ?_
        | (go_at_call 25; refine (mixBits_any 0 _).mono ?_; rintro e w1 ⟨rfl, rfl⟩))
      have hp0 : BB (wr.alloc (.cells ((bcells (zeros 256)).set 0 (.int .u8 ((mixB 0).toNat : Int))).toArray 38)) wr.heap.size 38 (subTo 0) := by
        unfold BB
        rw [heap_alloc_new, subTo, bcells_set]
      have HT0 := Lib.hid hp0
      have hbs := HB.out.size
      have hps := HP.out.lt
      clear hp0
      obtain ⟨w2, rfl⟩ : ∃ w2 : World, w2 = wr := ⟨_, rfl⟩
      go_loopw [23] (fun i wv => ∃ n : Nat, i = .int .i64 n ∧ n ≤ 255 ∧ BB wv w2.heap.size 38 (subTo n) ∧ BB wv (w.heap.size + 1) 38 (powTo 255) ∧ BB wv w.heap.size 38 (zeros 256) ∧ Below w.heap.size w wv) (fun i _ => 255 - (intOf i).toNat)
      case atStart => exact ⟨0, rfl, by omega, HT0.out, HP.out.alloc _, HR.out.alloc _, HB.out.alloc hbs _⟩
      case round =>
        obtain ⟨n, rfl, hn, hT, hP, hR, hbel⟩ := hrel
        by_cases hlt : n < 255
        · obtain ⟨q, hq⟩ : ∃ q, q = 255 - n := ⟨_, rfl⟩
          have c1 := hP.at_ (powTo_at 255 n (by omega))
          rw [if_pos (by omega)] at c1
          have c2 := hP.at_ (powTo_at 255 q (by omega))
          rw [if_pos (by omega)] at c2
          have hxl := (pw n).toNat_lt
          obtain ⟨u, hu⟩ : ∃ u, (subTo n)[(pw n).toNat]? = some u := ⟨_, List.getElem?_eq_getElem (by rw [subTo_length]; exact hxl)⟩
          have c3 := hT.at_ hu
          have f3 := hT.free (pw n).toNat
          have w1 : IntKind.i64.wrap (255 - (n : Int)) = (q : Int) := by rw [IntKind.wrap_i64]; omega
          have b1 : (n : Int) < 256 := by omega
          have b2 : (q : Int) < 256 := by omega
          have b3 : ((pw n).toNat : Int) < 256 := by omega
          have hki : (n : Int) < 255 := by omega
          have hs : (subTo n).set (pw n).toNat (mixB (pw q)) = subTo (n + 1) := by rw [hq]; rfl
          have HN := Lib.hid (fun x hx => hs ▸ hT.drew.set_ (pw n).toNat (mixB (pw q)) x hx)
          have hd : ∀ W, Calls Try.prog 25 #[.int .u8 ((pw q).toNat : Int)] W fun e w' => e = .returned (.int .u8 ((mixB (pw q)).toNat : Int)) ∧ w' = W := fun W => (mixBits_any (pw q) W).mono fun _ _ h => ⟨h.1, h.2.symm⟩
          have HD := Lib.hid hd
          have HR := Lib.hid hR
          have HP2 := Lib.hid hP
          have HB2 := Lib.hid hbel
          clear hd hR hbel hP hq hs hT hu hxl
          generalize (mixB (pw q)).toNat = z at *
          generalize (pw q).toNat = y at *
          generalize (pw n).toNat = x at *
          go_wp2
          go_still_tail 9, (by kernel_rfl)
          still_call (HD.out _)
          repeat still_step
          refine wpStill_nil ?_
          clear w1
          change wpList _ _ _ _ _ wr.drew
          go_wp2
          go_roundw
          case rel => exact ⟨n + 1, by go_num, by omega, HN.out _ rfl, HP2.out.drew.far (by simp; omega) _, HR.out.drew.far (by simp; omega) _, HB2.out.drew.setCell (by simp; omega) _⟩
          case measure => simp [intOf]; omega
        · obtain rfl : n = 255 := by omega
          have HT := Lib.hid hT
          have HR2 := Lib.hid hR
          have HB2 := Lib.hid hbel
          clear hR hbel hP hT
          go_wp2_with (first
            | refine wpList_loadB arr256 rfl (.tmp 3) rfl HT.out subT_length rfl ?_
            | (refine wpList_storeB arr256 rfl (.tmp 0) (.tmp 36) rfl HR2.out (zeros_length 256) subT_length rfl rfl ?_; intro w3 h3 hg3))
          exact bodyPost_ret (results_B arr256 rfl _ h3 subT_length rfl) rfl ⟨rfl, HB2.out.trans (below_of_grown hg3 (Nat.le_refl _) HB2.out.size)⟩
end Go.Proofs.Ytbpkaaajcimcgab
