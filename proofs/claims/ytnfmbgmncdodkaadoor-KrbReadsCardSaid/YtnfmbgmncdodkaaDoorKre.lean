/- The document's example of messages; the walk of KrbNames. -/
import Derived.Test.YtnfmbgmncdodkaaDoorKra
namespace Go.Proofs.YtnfmbgmncdodkaaDoor
open Go.RowKit

/-- The example's message. -/
def mEx : Msg := ⟨7, ⟨#[]⟩, ⟨#[]⟩, 5, 0, 0, [], [], 66⟩
theorem mEx_ok : okK mEx = true := by decide +kernel
theorem mEx_bytes : bytesK mEx = [31, 0, 1, 7, 34, 0, 1, 5, 39, 0, 1, 66] := by decide +kernel
theorem mEx_lens : lensK mEx := by unfold lensK mEx; decide
theorem mEx_KM (w : World) : KM w w.heap.size mEx none 0 none 0 := ⟨RB.nil_ _ _, RB.nil_ _ _⟩
theorem kwrite_ex (w : World) (hM : ML w) : Calls Tryd.prog 9 #[.agg #[.int .i64 7, .string ⟨#[]⟩, .string ⟨#[]⟩, .int .u64 5, .int .i64 0, .int .i64 0, .slice none 0 0, .slice none 0 0, .int .i64 66]] w fun e w' =>
    ∃ A c, e = .returned (.tuple #[.slice A 12 c, .int .i64 0]) ∧ RB w' w'.heap.size A [31, 0, 1, 7, 34, 0, 1, 5, 39, 0, 1, 66] c ∧ w.grownBy w' none := by
  refine (kwrite_any mEx none 0 none 0 w.heap.size w hM (mEx_KM w) (Nat.le_refl _) (by decide) mEx_lens).mono ?_
  rintro e w' ⟨hg, h⟩
  rw [mEx_ok, if_pos rfl, mEx_bytes] at h
  obtain ⟨v, rfl, A, c, rfl, hr⟩ := h
  exact ⟨A, c, rfl, hr, hg⟩
set_option maxRecDepth 100000 in
set_option maxHeartbeats 1000000 in
theorem kspeaks_any (w : World) (hM : ML w) : Calls Tryd.prog 5 #[] w fun e w' => e = .returned (.bool true) ∧ w.grownBy w' none := by
  have HM := Lib.hid hM
  clear hM
  go_enter Tryd.func5, Tryd.ntmps5
  go_wp2_with (go_at_call 9; refine (kwrite_ex _ HM.out).mono ?_; rintro e w1 ⟨A, c, rfl, r, g⟩; have G1 := Lib.hid g; have q1 : (convert 22 9 (.slice A 12 c)).run Tryd.prog w1 = .ok (.string ⟨#[31, 0, 1, 7, 34, 0, 1, 5, 39, 0, 1, 66]⟩) w1 := run_strB byteT Tryd.underlying9 r; clear r g)
  go_ret
  exact ⟨rfl, G1.out⟩
end Go.Proofs.YtnfmbgmncdodkaaDoor
namespace Go.Proofs.YtnfmbgmncdodkaaDoor
open Go.RowKit

/-- The document's table. -/
def TB : List Int := [0,0,0,0,0,0,0,0,0, 1,1,1,1,1,1,0,0,0, 1,0,1,1,1,1,1,1,0, 1,0,0,1,0,0,1,1,0, 1,0,0,1,0,0,1,1,0, 1,0,0,1,0,0,0,1,0, 1,0,0,1,0,0,0,1,0, 1,0,0,1,0,0,0,0,1]
theorem icells_oneC (l : List Int) : ∀ u ∈ icells l, u.oneCell' = true := by
  intro u hu
  obtain ⟨_, _, rfl⟩ := List.mem_map.1 hu
  rfl
theorem aggTB : AggT Tryd.prog 97 72 := ⟨fun w => by kernel_rfl, by kernel_rfl⟩
theorem zeroTB (w : World) : (zeroValue 97).run Tryd.prog w = .ok (.agg (icells (List.replicate 72 0)).toArray) w := by kernel_rfl
def rowTB (i : Nat) : Value := .agg (icells ((TB.drop (9 * i)).take 9)).toArray
theorem run_TB (w : World) : (Instr.build 97 #[(0, rowTB 0), (1, rowTB 1), (2, rowTB 2), (3, rowTB 3), (4, rowTB 4), (5, rowTB 5), (6, rowTB 6), (7, rowTB 7)]).run Tryd.prog w = .ok (.agg (icells TB).toArray) w := by kernel_rfl
theorem TB_at : ∀ n : Fin 8, ∀ j : Fin 9, 1 ≤ n.val → ((TB.getD (n.val * 9 + j.val) 0 == 1) = (tagsK (n.val : Int)).contains ((31 + j.val : Nat) : Int)) := by decide +kernel
theorem wpList_buildV {P : Program} {ops : Array Oper} {Q : Exit → Act → World → Prop} {rest : List Oper} {o : Oper} {a : Act} {w : World} {t : TypeId} {parts : Array (Nat × Operand)} {ps : Array (Nat × Value)} {v : Value} (hgd : o.guard = none) (ho : o.op = .build t parts) (hp : parts.map (fun (i, x) => (i, a.eval x)) = ps) (hr : (Instr.build t ps).run P w = .ok v w)
    (hk : wpList P ops Q rest (a.put o.dst v) w) : wpList P ops Q (o :: rest) a w := by
  refine wpList_plain hgd fun K hK => ?_
  unfold Oper.wp execOp
  have hp' : parts.map (fun (i, x) => (i, a.eval x)) = ps := hp
  simp only [ho, hp', Sem.run_bind, Sem.run_pure, Result.andThen_ok, hr]
  exact hK _ _ hk
theorem tagsK_out {k t : Int} (h : k < 1 ∨ 7 < k ∨ t < 31 ∨ 39 < t) : (tagsK k).contains t = false := by
  rw [List.contains_eq_mem, decide_eq_false_iff_not]
  intro hm
  have h1 := tagsK_in k t hm
  have h2 : tagsK k ≠ [] := fun e => by rw [e] at hm; simp at hm
  apply h2
  unfold tagsK
  repeat' rw [if_neg (by omega)]

set_option maxRecDepth 100000 in
set_option maxHeartbeats 2000000 in
theorem refHas_any (k tag : Int) (w : World) : Calls Tryd.prog 26 #[.int .i64 k, .int .i64 tag] w fun e w' => e = .returned (.bool ((tagsK k).contains tag)) ∧ w.grownBy w' none := by
  by_cases h1 : 1 ≤ k
  · by_cases h2 : k ≤ 7
    · by_cases h3 : 31 ≤ tag
      · by_cases h4 : tag ≤ 39
        · obtain ⟨n, rfl⟩ : ∃ n : Nat, k = n := ⟨k.toNat, by omega⟩
          obtain ⟨j, rfl⟩ : ∃ j : Nat, tag = ((31 + j : Nat) : Int) := ⟨(tag - 31).toNat, by omega⟩
          have hn : n < 8 := by omega
          have hj : j < 9 := by omega
          have hni : (n : Int) < 8 := by omega
          have hjs : ((31 + j : Nat) : Int) - 31 = (j : Int) := by omega
          have hji : (j : Int) < 9 := by omega
          obtain ⟨x, hx⟩ : ∃ x, TB.getD (n * 9 + j) 0 = x := ⟨_, rfl⟩
          have HV := Lib.hid (show (tagsK (n : Int)).contains ((31 + j : Nat) : Int) = (x == 1) by rw [← hx]; exact (TB_at ⟨n, hn⟩ ⟨j, hj⟩ (by simp only; omega)).symm)
          have HX := Lib.hid (show (icells TB)[n * 9 + j]? = some (.int .i64 x) by
            have hl : n * 9 + j < TB.length := by show n * 9 + j < 72; omega
            rw [icells, List.getElem?_map, List.getElem?_eq_getElem hl, ← hx]
            simp [List.getD, List.getElem?_eq_getElem hl])
          rw [HV.out]
          obtain ⟨tg, htg⟩ : ∃ t : Int, ((31 + j : Nat) : Int) = t := ⟨_, rfl⟩
          rw [htg] at hjs h3 h4 ⊢
          clear hx htg
          go_enter Tryd.func26, Tryd.ntmps26
          go_wp2_with (first
      | refine wpList_allocC zeroTB rfl rfl ?_
      | refine wpList_buildV rfl rfl (by first | rfl | (go_simp; rfl)) (run_TB _) ?_
      | (refine wpList_storeC (off := 0) (p := icells TB) aggTB.hi rfl (.tmp 5) (.tmp 14) rfl (.agg (icells TB).toArray) rfl (icells_oneC TB) (CB.new w 97 (icells (List.replicate 72 0))) rfl (by simp [icells]) (by first | rfl | go_simp) rfl ?_; intro wt ht gt; rw [over_all _ _ (by simp [icells, TB])] at ht; have HT := Lib.hid ht; have GT := Lib.hid (none_new (grown_alloc w _ none) gt (Nat.le_refl _)); have hq := HT.out.at_ HX.out; clear ht gt))
          go_ret
          exact ⟨rfl, GT.out⟩
        · rw [tagsK_out (by omega)]
          go_enter Tryd.func26, Tryd.ntmps26
          go_wp2_with (first
      | refine wpList_allocC zeroTB rfl rfl ?_
      | refine wpList_buildV rfl rfl (by first | rfl | (go_simp; rfl)) (run_TB _) ?_
      | (refine wpList_storeC (off := 0) (p := icells TB) aggTB.hi rfl (.tmp 5) (.tmp 14) rfl (.agg (icells TB).toArray) rfl (icells_oneC TB) (CB.new w 97 (icells (List.replicate 72 0))) rfl (by simp [icells]) (by first | rfl | go_simp) rfl ?_; intro wt ht gt; rw [over_all _ _ (by simp [icells, TB])] at ht; have HT := Lib.hid ht; have GT := Lib.hid (none_new (grown_alloc w _ none) gt (Nat.le_refl _)); clear ht gt))
          go_ret
          exact ⟨rfl, GT.out⟩
      · rw [tagsK_out (by omega)]
        go_enter Tryd.func26, Tryd.ntmps26
        go_wp2_with (first
      | refine wpList_allocC zeroTB rfl rfl ?_
      | refine wpList_buildV rfl rfl (by first | rfl | (go_simp; rfl)) (run_TB _) ?_
      | (refine wpList_storeC (off := 0) (p := icells TB) aggTB.hi rfl (.tmp 5) (.tmp 14) rfl (.agg (icells TB).toArray) rfl (icells_oneC TB) (CB.new w 97 (icells (List.replicate 72 0))) rfl (by simp [icells]) (by first | rfl | go_simp) rfl ?_; intro wt ht gt; rw [over_all _ _ (by simp [icells, TB])] at ht; have HT := Lib.hid ht; have GT := Lib.hid (none_new (grown_alloc w _ none) gt (Nat.le_refl _)); clear ht gt))
        go_ret
        exact ⟨rfl, GT.out⟩
    · rw [tagsK_out (by omega)]
      go_enter Tryd.func26, Tryd.ntmps26
      go_wp2_with (first
      | refine wpList_allocC zeroTB rfl rfl ?_
      | refine wpList_buildV rfl rfl (by first | rfl | (go_simp; rfl)) (run_TB _) ?_
      | (refine wpList_storeC (off := 0) (p := icells TB) aggTB.hi rfl (.tmp 5) (.tmp 14) rfl (.agg (icells TB).toArray) rfl (icells_oneC TB) (CB.new w 97 (icells (List.replicate 72 0))) rfl (by simp [icells]) (by first | rfl | go_simp) rfl ?_; intro wt ht gt; rw [over_all _ _ (by simp [icells, TB])] at ht; have HT := Lib.hid ht; have GT := Lib.hid (none_new (grown_alloc w _ none) gt (Nat.le_refl _)); clear ht gt))
      go_ret
      exact ⟨rfl, GT.out⟩
  · rw [tagsK_out (by omega)]
    go_enter Tryd.func26, Tryd.ntmps26
    go_wp2_with (first
      | refine wpList_allocC zeroTB rfl rfl ?_
      | refine wpList_buildV rfl rfl (by first | rfl | (go_simp; rfl)) (run_TB _) ?_
      | (refine wpList_storeC (off := 0) (p := icells TB) aggTB.hi rfl (.tmp 5) (.tmp 14) rfl (.agg (icells TB).toArray) rfl (icells_oneC TB) (CB.new w 97 (icells (List.replicate 72 0))) rfl (by simp [icells]) (by first | rfl | go_simp) rfl ?_; intro wt ht gt; rw [over_all _ _ (by simp [icells, TB])] at ht; have HT := Lib.hid ht; have GT := Lib.hid (none_new (grown_alloc w _ none) gt (Nat.le_refl _)); clear ht gt))
    go_ret
    exact ⟨rfl, GT.out⟩

def greatK (m : Msg) : Bool := decide (300 < m.c.size) || (decide (300 < m.s.size) || (decide (4000 < m.t.length) || decide (4000 < m.sl.length)))
theorem greatK_lens {m : Msg} (h : greatK m = false) : m.c.size ≤ 300 ∧ m.s.size ≤ 300 ∧ m.t.length ≤ 4000 ∧ m.sl.length ≤ 4000 := by
  simp only [greatK, Bool.or_eq_false_iff, decide_eq_false_iff_not] at h
  omega
end Go.Proofs.YtnfmbgmncdodkaaDoor
