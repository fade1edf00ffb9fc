/- The walk of Auth. -/
import Derived.Test.YtcfhpoigfkljpaaTnc
namespace Go.Proofs.Ytcfhpoigfkljpaa
open Go.ChangeShapes Go.WideShapes Go.RowKit
set_option linter.unusedVariables false

/-- What Auth comes to. -/
def AuR (w w' : World) (x : Nat × Bool × List UInt8 × Bool) (e : Ending) : Prop := ∃ v, e = .returned (.tuple #[.int .i64 (x.1 : Int), .bool x.2.1, v, .int .i64 (if x.2.2.2 = true then 0 else 21)]) ∧ OwnB w' w.heap.size 5 v x.2.2.1 ∧ w.grownBy w' none
/-- A part that is made, opened. -/
def NpR (w w' : World) (l : List UInt8) (m : Nat) (e : Ending) : Prop := ∃ A c, e = .returned (.agg #[.int .i64 3, .int .i64 0, .int .i64 37, .slice A m c]) ∧ RB w' w'.heap.size A l c ∧ w.grownBy w' none
theorem np {w w' : World} {l : List UInt8} {m : Nat} {e : Ending} (h : AbR w w' (l ++ []) e) (hm : l.length = m) : NpR w w' l m e := by
  obtain ⟨v, rfl, o, g⟩ := h
  rw [List.append_nil] at o
  obtain ⟨A, c, rfl, r, -⟩ := o.shape
  subst hm
  exact ⟨A, c, rfl, r, g⟩
theorem np' {w w' : World} {l : List UInt8} {m : Nat} {e : Ending} (h : AbR w w' ([] ++ l) e) (hm : l.length = m) : NpR w w' l m e := np (by rw [List.append_nil]; exact h) hm
theorem fld3 (A : Option Addr) (m c : Nat) (wx : World) : (Instr.field 24 (.agg #[.int .i64 3, .int .i64 0, .int .i64 37, .slice A m c]) 3).run Try.prog wx = .ok (.slice A m c) wx := by kernel_rfl
theorem szH : (Try.prog.info? 67).map (·.size) = some 3 := by kernel_rfl
section
variable {w : World}
set_option maxHeartbeats 2000000 in
theorem pa_k (A : Option Addr) (k vb o : Int) (n cap : Nat) (hk : ¬ k = 3) :
    Calls Try.prog 17 #[.agg #[.int .i64 k, .int .i64 vb, .int .i64 o, .slice A n cap]] w fun e w' => AuR w w' (0, false, [], false) e := by
  go_enter Try.func17, Try.ntmps17
  go_wp2
  ((try simp only [Exit.inBlock, Exit.then]); refine bodyPost_ret (results_tmp4 rfl _ _ _) rfl ?_)
  exact ⟨_, rfl, OwnB.nil_ _ _ _, grown_alloc _ _ _⟩
set_option maxHeartbeats 2000000 in
theorem pa_o (A : Option Addr) (vb o : Int) (n cap : Nat) (ho : ¬ o = 37) :
    Calls Try.prog 17 #[.agg #[.int .i64 3, .int .i64 vb, .int .i64 o, .slice A n cap]] w fun e w' => AuR w w' (0, false, [], false) e := by
  go_enter Try.func17, Try.ntmps17
  go_wp2
  ((try simp only [Exit.inBlock, Exit.then]); refine bodyPost_ret (results_tmp4 rfl _ _ _) rfl ?_)
  exact ⟨_, rfl, OwnB.nil_ _ _ _, grown_alloc _ _ _⟩
set_option maxHeartbeats 4000000 in
theorem pa_send (A : Option Addr) (vb : Int) (d : List UInt8) (n cap : Nat) (hn : d.length = n) (hr : RB w w.heap.size A d cap) (hl : n ≤ 100000) (he : (d == [1, 2, 2]) = true) :
    Calls Try.prog 17 #[.agg #[.int .i64 3, .int .i64 vb, .int .i64 37, .slice A n cap]] w fun e w' => AuR w w' (1, false, [], true) e := by
  have HN := Lib.hid hn
  have HR := Lib.hid hr
  have HL := Lib.hid hl
  have HE := Lib.hid he
  clear hn hr hl he
  go_enter Try.func17, Try.ntmps17
  go_wp2
  obtain ⟨wd, hwd⟩ : ∃ x, (w.alloc (.cells #[.int .i64 3, .int .i64 vb, .int .i64 37, .slice A n cap] 24)).drew = x := ⟨_, rfl⟩
  have GD := Lib.hid (show w.grownBy wd none by rw [← hwd]; exact grown_drew (grown_alloc _ _ _))
  have CD := Lib.hid (show CB wd w.heap.size 24 [.int .i64 3, .int .i64 vb, .int .i64 37, .slice A n cap] by rw [← hwd]; exact CB.new _ _ _)
  have hS0 : wd.cell? ⟨w.heap.size, 3, none⟩ = some (.slice A n cap) := CD.out.at_ rfl
  refine helds_begin (fun x => x.cell? ⟨w.heap.size, 3, none⟩ = some (.slice A n cap)) (by kernel_rfl) (by rw [hwd]; exact hS0) (fun hSd => ?_)
  try rw [hwd]
  try rw [hwd] at hSd
  refine helds_take (i := 0) (d := some 20) (v := ?vsa_1) (by assumption) rfl rfl (by kernel_rfl) (fun _ _ _ h => h) ?ysa_1 ?_; case ysa_1 => (refine Or.inl ⟨rfl, fun wx hS => ?_⟩; go_simp; try with_reducible rfl)
  try simp only [Act.put, List.setIfInBounds_toArray, List.set_cons_zero, List.set_cons_succ]
  refine helds_take (i := 1) (d := some 21) (v := _) (by assumption) rfl rfl (by kernel_rfl) (fun _ _ _ h => h) (yields_cellX aggB (.tmp 20) rfl rfl (fun wx hx => hx) (by first | rfl | go_simp)) ?_
  try simp only [Act.put, List.setIfInBounds_toArray, List.set_cons_zero, List.set_cons_succ]
  refine helds_one (i := 2) rfl (by kernel_rfl) rfl (fun K hK => ?_)
  refine wp_callD (d := some 22) (f := 19) (args := #[]) rfl (by simp [execOp, go_sem]; done) ?_
  refine (send_any.mono (fun e w' h => np (l := [1, 2, 2]) (m := 3) h rfl)).mono ?_
  rintro e w2 ⟨A2, cp2, rfl, r2, g2⟩
  refine ⟨_, rfl, ?_⟩
  have G2 := Lib.hid (grown_trans' GD.out g2)
  have C2 := Lib.hid (CD.out.kept g2)
  have RS := Lib.hid r2
  have hS2 : w2.cell? ⟨w.heap.size, 3, none⟩ = some (.slice A n cap) := C2.out.at_ rfl
  clear g2 r2
  refine hK.out _ _ (by assumption) (fun _ => ?_)
  clear hK K
  try simp only [Act.put, List.setIfInBounds_toArray, List.set_cons_zero, List.set_cons_succ]
  refine helds_take (i := 3) (d := some 23) (v := ?vsa_3) (by assumption) rfl rfl (by kernel_rfl) (fun _ _ _ h => h) ?ysa_3 ?_; case ysa_3 => (refine Or.inl ⟨rfl, fun wx hS => ?_⟩; have hf := fld3 A2 3 cp2 wx; go_simp; try with_reducible rfl)
  try simp only [Act.put, List.setIfInBounds_toArray, List.set_cons_zero, List.set_cons_succ]
  refine helds_one (i := 4) rfl (by kernel_rfl) rfl (fun K hK => ?_)
  refine wp_callD (d := some 24) (f := 27) (args := #[.slice A n cap, .slice A2 3 cp2]) rfl (by simp [execOp, go_sem]; done) ?_
  refine (equal_any A A2 d [1, 2, 2] n 3 cap cp2 HN.out rfl ((HR.out.below (below_of_none G2.out)).more G2.out.size) RS.out).mono ?_
  rw [HE.out]
  rintro e wv ⟨rfl, rfl⟩
  refine ⟨_, rfl, ?_⟩
  refine hK.out _ _ (by assumption) (fun _ => ?_)
  clear hK K
  try simp only [Act.put, List.setIfInBounds_toArray, List.set_cons_zero, List.set_cons_succ]
  refine helds_take (i := 5) (d := some 19) (v := ?vsa_4) (by assumption) rfl rfl (by kernel_rfl) (fun _ _ _ h => h) ?ysa_4 ?_; case ysa_4 => (refine Or.inl ⟨rfl, fun wx hS => ?_⟩; go_simp; try with_reducible rfl)
  try simp only [Act.put, List.setIfInBounds_toArray, List.set_cons_zero, List.set_cons_succ]
  refine held_end (by kernel_rfl) ?_ _
  clear hS0 hS2 hSd
  go_wp2
  ((try simp only [Exit.inBlock, Exit.then]); refine bodyPost_ret (results_tmp4 rfl _ _ _) rfl ?_)
  exact ⟨_, rfl, OwnB.nil_ _ _ _, G2.out⟩
theorem aggO : ∀ w, (isAgg 4).run Try.prog w = .ok false w := fun w => by kernel_rfl
set_option maxRecDepth 20000 in
set_option maxHeartbeats 8000000 in
theorem pa_rest (A : Option Addr) (vb : Int) (d : List UInt8) (n cap : Nat) (hn : d.length = n) (hr : RB w w.heap.size A d cap) (hl : n ≤ 100000) (he : (d == [1, 2, 2]) = false) :
    Calls Try.prog 17 #[.agg #[.int .i64 3, .int .i64 vb, .int .i64 37, .slice A n cap]] w fun e w' => AuR w w' (auF 3 37 d) e := by
  have HN := Lib.hid hn
  have HR := Lib.hid hr
  have HL := Lib.hid hl
  have HE := Lib.hid he
  clear hn hr hl he
  go_enter Try.func17, Try.ntmps17
  go_wp2
  obtain ⟨wd, hwd⟩ : ∃ x, (w.alloc (.cells #[.int .i64 3, .int .i64 vb, .int .i64 37, .slice A n cap] 24)).drew = x := ⟨_, rfl⟩
  have GD := Lib.hid (show w.grownBy wd none by rw [← hwd]; exact grown_drew (grown_alloc _ _ _))
  have CD := Lib.hid (show CB wd w.heap.size 24 [.int .i64 3, .int .i64 vb, .int .i64 37, .slice A n cap] by rw [← hwd]; exact CB.new _ _ _)
  have hS0 : wd.cell? ⟨w.heap.size, 3, none⟩ = some (.slice A n cap) := CD.out.at_ rfl
  refine helds_begin (fun x => x.cell? ⟨w.heap.size, 3, none⟩ = some (.slice A n cap)) (by kernel_rfl) (by rw [hwd]; exact hS0) (fun hSd => ?_)
  try rw [hwd]
  try rw [hwd] at hSd
  refine helds_take (i := 0) (d := some 20) (v := ?vra_1) (by assumption) rfl rfl (by kernel_rfl) (fun _ _ _ h => h) ?yra_1 ?_; case yra_1 => (refine Or.inl ⟨rfl, fun wx hS => ?_⟩; go_simp; try with_reducible rfl)
  try simp only [Act.put, List.setIfInBounds_toArray, List.set_cons_zero, List.set_cons_succ]
  refine helds_take (i := 1) (d := some 21) (v := _) (by assumption) rfl rfl (by kernel_rfl) (fun _ _ _ h => h) (yields_cellX aggB (.tmp 20) rfl rfl (fun wx hx => hx) (by first | rfl | go_simp)) ?_
  try simp only [Act.put, List.setIfInBounds_toArray, List.set_cons_zero, List.set_cons_succ]
  refine helds_one (i := 2) rfl (by kernel_rfl) rfl (fun K hK => ?_)
  refine wp_callD (d := some 22) (f := 19) (args := #[]) rfl (by simp [execOp, go_sem]; done) ?_
  refine (send_any.mono (fun e w' h => np (l := [1, 2, 2]) (m := 3) h rfl)).mono ?_
  rintro e w2 ⟨A2, cp2, rfl, r2, g2⟩
  refine ⟨_, rfl, ?_⟩
  have G2 := Lib.hid (grown_trans' GD.out g2)
  have C2 := Lib.hid (CD.out.kept g2)
  have RS := Lib.hid r2
  have hS2 : w2.cell? ⟨w.heap.size, 3, none⟩ = some (.slice A n cap) := C2.out.at_ rfl
  clear g2 r2
  refine hK.out _ _ (by assumption) (fun _ => ?_)
  clear hK K
  try simp only [Act.put, List.setIfInBounds_toArray, List.set_cons_zero, List.set_cons_succ]
  refine helds_take (i := 3) (d := some 23) (v := ?vra_3) (by assumption) rfl rfl (by kernel_rfl) (fun _ _ _ h => h) ?yra_3 ?_; case yra_3 => (refine Or.inl ⟨rfl, fun wx hS => ?_⟩; have hf := fld3 A2 3 cp2 wx; go_simp; try with_reducible rfl)
  try simp only [Act.put, List.setIfInBounds_toArray, List.set_cons_zero, List.set_cons_succ]
  refine helds_one (i := 4) rfl (by kernel_rfl) rfl (fun K hK => ?_)
  refine wp_callD (d := some 24) (f := 27) (args := #[.slice A n cap, .slice A2 3 cp2]) rfl (by simp [execOp, go_sem]; done) ?_
  refine (equal_any A A2 d [1, 2, 2] n 3 cap cp2 HN.out rfl ((HR.out.below (below_of_none G2.out)).more G2.out.size) RS.out).mono ?_
  rw [HE.out]
  rintro e wv ⟨rfl, rfl⟩
  refine ⟨_, rfl, ?_⟩
  refine hK.out _ _ (by assumption) (fun _ => ?_)
  clear hK K
  try simp only [Act.put, List.setIfInBounds_toArray, List.set_cons_zero, List.set_cons_succ]
  refine helds_take (i := 5) (d := some 19) (v := ?vra_4) (by assumption) rfl rfl (by kernel_rfl) (fun _ _ _ h => h) ?yra_4 ?_; case yra_4 => (refine Or.inl ⟨rfl, fun wx hS => ?_⟩; go_simp; try with_reducible rfl)
  try simp only [Act.put, List.setIfInBounds_toArray, List.set_cons_zero, List.set_cons_succ]
  refine held_end (by kernel_rfl) ?_ _
  clear hS0 hS2 hSd
  go_wp2_with (first
   | (go_at_call 20
      refine ((is_any none [] 0 0 rfl (RB.nil_ _ _) (by simp)).mono (fun e w' h => np (l := [0, 2, 2, 0]) (m := 4) h rfl)).mono ?_
      rintro e u1 ⟨B1, q1, rfl, r1, g1⟩
      have U1 := Lib.hid (grown_trans' G2.out g1)
      have D1 := Lib.hid (C2.out.kept g1)
      have L1 := Lib.hid g1
      have R1 := Lib.hid r1
      have f1 := fld3 B1 4 q1
      have TK0 := Lib.hid True.intro
      clear g1 r1)
   | (go_at_call 21
      have hx := TK0
      clear hx TK0
      refine ((reply_no none [] 0 0 rfl (RB.nil_ _ _) (by simp)).mono (fun e w' h => np (l := [2, 2, 2, 1]) (m := 4) h rfl)).mono ?_
      rintro e u2 ⟨B2, q2, rfl, r2, g2⟩
      have U2 := Lib.hid (grown_trans' U1.out g2)
      have D2 := Lib.hid (D1.out.kept g2)
      have L2 := Lib.hid g2
      have R2 := Lib.hid r2
      have f2 := fld3 B2 4 q2
      have TK1 := Lib.hid True.intro
      clear g2 r2)
   | (go_at_call 21
      have hx := TK1
      clear hx TK1
      refine ((reply_yes none [] 0 0 rfl (RB.nil_ _ _) (by simp)).mono (fun e w' h => np (l := [2, 2, 2, 2]) (m := 4) h rfl)).mono ?_
      rintro e u3 ⟨B3, q3, rfl, r3, g3⟩
      have U3 := Lib.hid (grown_trans' U2.out g3)
      have D3 := Lib.hid (D2.out.kept g3)
      have L3 := Lib.hid g3
      have R3 := Lib.hid r3
      have f3 := fld3 B3 4 q3
      skip
      clear g3 r3))
  have Q1 := Lib.hid ((R1.out.below (below_of_none (grown_trans' L2.out L3.out))).more (grown_trans' L2.out L3.out).size)
  have Q2 := Lib.hid ((R2.out.below (below_of_none L3.out)).more L3.out.size)
  have Q3 := R3
  clear R1 R2 R3 f1 f2 f3 L1 L2 L3
  go_loopw [35] (fun s35 wr => (s35 = .int .i64 0 ∧ u3.grownBy wr none) ∨ (s35 = .int .i64 1 ∧ [0, 2, 2, 0].isPrefixOf d = false ∧ u3.grownBy wr none) ∨ (s35 = .int .i64 2 ∧ [0, 2, 2, 0].isPrefixOf d = false ∧ [2, 2, 2, 1].isPrefixOf d = false ∧ u3.grownBy wr none) ∨ (s35 = .int .i64 3 ∧ [0, 2, 2, 0].isPrefixOf d = false ∧ [2, 2, 2, 1].isPrefixOf d = false ∧ [2, 2, 2, 2].isPrefixOf d = false ∧ u3.grownBy wr none)) (fun s35 _ => 3 - (intOf s35).toNat)
  case atStart => exact Or.inl ⟨rfl, World.grownBy.refl _ none⟩
  case round =>
    rcases hrel with ⟨rfl, hgw⟩ | ⟨rfl, p0, hgw⟩ | ⟨rfl, p0, p1, hgw⟩ | ⟨rfl, p0, p1, p2, hgw⟩
    · skip
      have hix := fun wx => (show (Instr.index 68 (.agg #[.slice B1 4 q1, .int .i64 0, .bool false, .slice B2 4 q2, .int .i64 2, .bool false, .slice B3 4 q3, .int .i64 2, .bool true]) (.int .i64 0)).run Try.prog wx = .ok (.agg #[.slice B1 4 q1, .int .i64 0, .bool false]) wx from by kernel_rfl)
      have GW := Lib.hid hgw
      by_cases hp : [0, 2, 2, 0].isPrefixOf d = true
      · have HA := Lib.hid (show auF 3 37 d = (0, false, d.drop 4, true) by rw [auF, if_neg (by simp), if_neg (by rw [HE.out]; simp), if_pos hp])
        have HP := Lib.hid hp
        clear hgw hp 
        go_wp2_with (first
         | (refine wpList_storeC (off := 0) (p := [.slice B1 4 q1, .int .i64 0, .bool false]) szH rfl (.tmp 7) (.tmp 37) rfl (.agg #[.slice B1 4 q1, .int .i64 0, .bool false]) rfl (fun u hu => by simp at hu; rcases hu with rfl | rfl | rfl <;> rfl) (CB.new wr 67 [.slice none 0 0, .int .i64 0, .bool false]) rfl (by simp) (by first | rfl | go_simp) (by first | rfl | go_simp) ?_
            intro w6 h6 g6
            have N6 := Lib.hid (grown_row (grown_alloc wr (.cells #[.slice none 0 0, .int .i64 0, .bool false] 67) none) g6 (fun z hz => by injection hz with hz; omega))
            have S6 := Lib.hid (show CB w6 wr.heap.size 67 [.slice B1 4 q1, .int .i64 0, .bool false] from h6)
            have T6 := Lib.hid (grown_trans' U3.out (grown_trans' GW.out N6.out))
            have D6 := Lib.hid ((D3.out.kept GW.out).kept N6.out)
            have c3 : w6.cell? ⟨w.heap.size, 3, none⟩ = some (.slice A n cap) := D6.out.at_ rfl
            have s0 : w6.cell? ⟨wr.heap.size, 0, none⟩ = some (.slice B1 4 q1) := S6.out.at_ rfl
            have X6 := Lib.hid ((Q1.out.below (below_of_none (grown_trans' GW.out N6.out))).more (grown_trans' GW.out N6.out).size)
            clear h6 g6)
         | (go_at_call 28
            refine (cutPrefix_yes A B1 d [0, 2, 2, 0] n 4 cap q1 HN.out rfl ((HR.out.below (below_of_none T6.out)).more T6.out.size) X6.out HP.out (by decide)).mono ?_
            rintro e wv ⟨A9, c9, rfl, r9, hwv⟩
            subst hwv
            have R9 := Lib.hid r9
            clear r9))
        obtain ⟨wz, hwz⟩ : ∃ x, wv.drew = x := ⟨_, rfl⟩
        have GZ := Lib.hid (show wv.grownBy wz none by rw [← hwz]; exact grown_drew (World.grownBy.refl _ none))
        have SZ := Lib.hid (S6.out.kept GZ.out)
        have hSz : (fun x => x.cell? ⟨wr.heap.size, 1, none⟩ = some (.int .i64 0) ∧ x.cell? ⟨wr.heap.size, 2, none⟩ = some (.bool false)) wz := ⟨SZ.out.at_ rfl, SZ.out.at_ rfl⟩
        clear c3 s0
        refine helds_begin (fun x => x.cell? ⟨wr.heap.size, 1, none⟩ = some (.int .i64 0) ∧ x.cell? ⟨wr.heap.size, 2, none⟩ = some (.bool false)) (by kernel_rfl) (by rw [hwz]; exact hSz) (fun hSd => ?_)
        try rw [hwz]
        try rw [hwz] at hSd
        refine helds_take (i := 0) (d := some 47) (v := ?vy0_1) (by assumption) rfl rfl (by kernel_rfl) (fun _ _ _ h => h) ?yy0_1 ?_; case yy0_1 => (refine Or.inl ⟨rfl, fun wx hS => ?_⟩; go_simp; try with_reducible rfl)
        try simp only [Act.put, List.setIfInBounds_toArray, List.set_cons_zero, List.set_cons_succ]
        refine helds_take (i := 1) (d := some 48) (v := _) (by assumption) rfl rfl (by kernel_rfl) (fun _ _ _ h => h) (yields_cellX aggI (.tmp 47) rfl rfl (fun wx hx => hx.1) (by first | rfl | go_simp)) ?_
        try simp only [Act.put, List.setIfInBounds_toArray, List.set_cons_zero, List.set_cons_succ]
        refine helds_take (i := 2) (d := some 49) (v := ?vy0_3) (by assumption) rfl rfl (by kernel_rfl) (fun _ _ _ h => h) ?yy0_3 ?_; case yy0_3 => (refine Or.inl ⟨rfl, fun wx hS => ?_⟩; go_simp; try with_reducible rfl)
        try simp only [Act.put, List.setIfInBounds_toArray, List.set_cons_zero, List.set_cons_succ]
        refine helds_take (i := 3) (d := some 50) (v := _) (by assumption) rfl rfl (by kernel_rfl) (fun _ _ _ h => h) (yields_cellX aggO (.tmp 49) rfl rfl (fun wx hx => hx.2) (by first | rfl | go_simp)) ?_
        try simp only [Act.put, List.setIfInBounds_toArray, List.set_cons_zero, List.set_cons_succ]
        refine helds_take (i := 4) (d := some 51) (v := ?vy0_5) (by assumption) rfl rfl (by kernel_rfl) (fun _ _ _ h => h) ?yy0_5 ?_; case yy0_5 => (refine Or.inl ⟨rfl, fun wx hS => ?_⟩; go_simp; try with_reducible rfl)
        try simp only [Act.put, List.setIfInBounds_toArray, List.set_cons_zero, List.set_cons_succ]
        refine helds_one (i := 5) rfl (by kernel_rfl) rfl (fun K hK => ?_)
        refine wp_callD (d := some 52) (f := 29) (args := #[.slice A9 (n - 4) c9]) rfl (by simp [execOp, go_sem]; done) ?_
        refine (clone_any A9 (d.drop 4) (n - 4) c9 (by rw [List.length_drop, HN.out]) ((R9.out.below (below_of_none GZ.out)).more GZ.out.size) (by have := HL.out; omega)).mono ?_
        rintro e w8 ⟨v8, rfl, o8, g8⟩
        refine ⟨_, rfl, ?_⟩
        have O8 := Lib.hid (o8.base_ (grown_trans' T6.out GZ.out).size)
        have G8 := Lib.hid (grown_trans' (grown_trans' T6.out GZ.out) g8)
        have S8 := Lib.hid ((S6.out.kept GZ.out).kept g8)
        have hS8 : (fun x => x.cell? ⟨wr.heap.size, 1, none⟩ = some (.int .i64 0) ∧ x.cell? ⟨wr.heap.size, 2, none⟩ = some (.bool false)) w8 := ⟨S8.out.at_ rfl, S8.out.at_ rfl⟩
        clear o8 g8
        refine hK.out _ _ (by assumption) (fun _ => ?_)
        clear hK K
        try simp only [Act.put, List.setIfInBounds_toArray, List.set_cons_zero, List.set_cons_succ]
        refine helds_take (i := 6) (d := some 2) (v := ?vy0_6) (by assumption) rfl rfl (by kernel_rfl) (fun _ _ _ h => h) ?yy0_6 ?_; case yy0_6 => (refine Or.inl ⟨rfl, fun wx hS => ?_⟩; go_simp; try with_reducible rfl)
        try simp only [Act.put, List.setIfInBounds_toArray, List.set_cons_zero, List.set_cons_succ]
        refine helds_take (i := 7) (d := some 3) (v := ?vy0_7) (by assumption) rfl rfl (by kernel_rfl) (fun _ _ _ h => h) ?yy0_7 ?_; case yy0_7 => (refine Or.inl ⟨rfl, fun wx hS => ?_⟩; go_simp; try with_reducible rfl)
        try simp only [Act.put, List.setIfInBounds_toArray, List.set_cons_zero, List.set_cons_succ]
        refine helds_take (i := 8) (d := some 4) (v := ?vy0_8) (by assumption) rfl rfl (by kernel_rfl) (fun _ _ _ h => h) ?yy0_8 ?_; case yy0_8 => (refine Or.inl ⟨rfl, fun wx hS => ?_⟩; go_simp; try with_reducible rfl)
        try simp only [Act.put, List.setIfInBounds_toArray, List.set_cons_zero, List.set_cons_succ]
        refine helds_take (i := 9) (d := some 5) (v := ?vy0_9) (by assumption) rfl rfl (by kernel_rfl) (fun _ _ _ h => h) ?yy0_9 ?_; case yy0_9 => (refine Or.inl ⟨rfl, fun wx hS => ?_⟩; go_simp; try with_reducible rfl)
        try simp only [Act.put, List.setIfInBounds_toArray, List.set_cons_zero, List.set_cons_succ]
        refine held_end (by kernel_rfl) ?_ _
        clear hSz hS8 hSd
        go_wp2
        ((try simp only [Exit.inBlock, Exit.then]); refine bodyPost_ret (results_tmp4 rfl _ _ _) rfl ?_)
        show AuR w _ (auF 3 37 d) _
        rw [HA.out]
        exact ⟨v8, rfl, O8.out, G8.out⟩
      · have hp : [0, 2, 2, 0].isPrefixOf d = false := Bool.eq_false_iff.2 hp
        have HP := Lib.hid (And.intro hp True.intro)
        skip
        clear hgw hp 
        go_wp2_with (first
         | (refine wpList_storeC (off := 0) (p := [.slice B1 4 q1, .int .i64 0, .bool false]) szH rfl (.tmp 7) (.tmp 37) rfl (.agg #[.slice B1 4 q1, .int .i64 0, .bool false]) rfl (fun u hu => by simp at hu; rcases hu with rfl | rfl | rfl <;> rfl) (CB.new wr 67 [.slice none 0 0, .int .i64 0, .bool false]) rfl (by simp) (by first | rfl | go_simp) (by first | rfl | go_simp) ?_
            intro w6 h6 g6
            have N6 := Lib.hid (grown_row (grown_alloc wr (.cells #[.slice none 0 0, .int .i64 0, .bool false] 67) none) g6 (fun z hz => by injection hz with hz; omega))
            have S6 := Lib.hid (show CB w6 wr.heap.size 67 [.slice B1 4 q1, .int .i64 0, .bool false] from h6)
            have T6 := Lib.hid (grown_trans' U3.out (grown_trans' GW.out N6.out))
            have D6 := Lib.hid ((D3.out.kept GW.out).kept N6.out)
            have c3 : w6.cell? ⟨w.heap.size, 3, none⟩ = some (.slice A n cap) := D6.out.at_ rfl
            have s0 : w6.cell? ⟨wr.heap.size, 0, none⟩ = some (.slice B1 4 q1) := S6.out.at_ rfl
            have X6 := Lib.hid ((Q1.out.below (below_of_none (grown_trans' GW.out N6.out))).more (grown_trans' GW.out N6.out).size)
            clear h6 g6)
         | (go_at_call 28
            refine (cutPrefix_no A B1 d [0, 2, 2, 0] n 4 cap q1 HN.out rfl ((HR.out.below (below_of_none T6.out)).more T6.out.size) X6.out HP.out.1).mono ?_
            rintro e wv ⟨rfl, hwv⟩
            subst hwv))
        go_roundw
        case rel => exact Or.inr (Or.inl ⟨rfl, HP.out.1, grown_trans' GW.out N6.out⟩)
        case measure => simp [intOf]
    · skip
      have hix := fun wx => (show (Instr.index 68 (.agg #[.slice B1 4 q1, .int .i64 0, .bool false, .slice B2 4 q2, .int .i64 2, .bool false, .slice B3 4 q3, .int .i64 2, .bool true]) (.int .i64 1)).run Try.prog wx = .ok (.agg #[.slice B2 4 q2, .int .i64 2, .bool false]) wx from by kernel_rfl)
      have GW := Lib.hid hgw
      by_cases hp : [2, 2, 2, 1].isPrefixOf d = true
      · have HA := Lib.hid (show auF 3 37 d = (2, false, d.drop 4, true) by rw [auF, if_neg (by simp), if_neg (by rw [HE.out]; simp), if_neg (by rw [p0]; simp), if_pos hp])
        have HP := Lib.hid hp
        clear hgw hp p0
        go_wp2_with (first
         | (refine wpList_storeC (off := 0) (p := [.slice B2 4 q2, .int .i64 2, .bool false]) szH rfl (.tmp 7) (.tmp 37) rfl (.agg #[.slice B2 4 q2, .int .i64 2, .bool false]) rfl (fun u hu => by simp at hu; rcases hu with rfl | rfl | rfl <;> rfl) (CB.new wr 67 [.slice none 0 0, .int .i64 0, .bool false]) rfl (by simp) (by first | rfl | go_simp) (by first | rfl | go_simp) ?_
            intro w6 h6 g6
            have N6 := Lib.hid (grown_row (grown_alloc wr (.cells #[.slice none 0 0, .int .i64 0, .bool false] 67) none) g6 (fun z hz => by injection hz with hz; omega))
            have S6 := Lib.hid (show CB w6 wr.heap.size 67 [.slice B2 4 q2, .int .i64 2, .bool false] from h6)
            have T6 := Lib.hid (grown_trans' U3.out (grown_trans' GW.out N6.out))
            have D6 := Lib.hid ((D3.out.kept GW.out).kept N6.out)
            have c3 : w6.cell? ⟨w.heap.size, 3, none⟩ = some (.slice A n cap) := D6.out.at_ rfl
            have s0 : w6.cell? ⟨wr.heap.size, 0, none⟩ = some (.slice B2 4 q2) := S6.out.at_ rfl
            have X6 := Lib.hid ((Q2.out.below (below_of_none (grown_trans' GW.out N6.out))).more (grown_trans' GW.out N6.out).size)
            clear h6 g6)
         | (go_at_call 28
            refine (cutPrefix_yes A B2 d [2, 2, 2, 1] n 4 cap q2 HN.out rfl ((HR.out.below (below_of_none T6.out)).more T6.out.size) X6.out HP.out (by decide)).mono ?_
            rintro e wv ⟨A9, c9, rfl, r9, hwv⟩
            subst hwv
            have R9 := Lib.hid r9
            clear r9))
        obtain ⟨wz, hwz⟩ : ∃ x, wv.drew = x := ⟨_, rfl⟩
        have GZ := Lib.hid (show wv.grownBy wz none by rw [← hwz]; exact grown_drew (World.grownBy.refl _ none))
        have SZ := Lib.hid (S6.out.kept GZ.out)
        have hSz : (fun x => x.cell? ⟨wr.heap.size, 1, none⟩ = some (.int .i64 2) ∧ x.cell? ⟨wr.heap.size, 2, none⟩ = some (.bool false)) wz := ⟨SZ.out.at_ rfl, SZ.out.at_ rfl⟩
        clear c3 s0
        refine helds_begin (fun x => x.cell? ⟨wr.heap.size, 1, none⟩ = some (.int .i64 2) ∧ x.cell? ⟨wr.heap.size, 2, none⟩ = some (.bool false)) (by kernel_rfl) (by rw [hwz]; exact hSz) (fun hSd => ?_)
        try rw [hwz]
        try rw [hwz] at hSd
        refine helds_take (i := 0) (d := some 47) (v := ?vy1_1) (by assumption) rfl rfl (by kernel_rfl) (fun _ _ _ h => h) ?yy1_1 ?_; case yy1_1 => (refine Or.inl ⟨rfl, fun wx hS => ?_⟩; go_simp; try with_reducible rfl)
        try simp only [Act.put, List.setIfInBounds_toArray, List.set_cons_zero, List.set_cons_succ]
        refine helds_take (i := 1) (d := some 48) (v := _) (by assumption) rfl rfl (by kernel_rfl) (fun _ _ _ h => h) (yields_cellX aggI (.tmp 47) rfl rfl (fun wx hx => hx.1) (by first | rfl | go_simp)) ?_
        try simp only [Act.put, List.setIfInBounds_toArray, List.set_cons_zero, List.set_cons_succ]
        refine helds_take (i := 2) (d := some 49) (v := ?vy1_3) (by assumption) rfl rfl (by kernel_rfl) (fun _ _ _ h => h) ?yy1_3 ?_; case yy1_3 => (refine Or.inl ⟨rfl, fun wx hS => ?_⟩; go_simp; try with_reducible rfl)
        try simp only [Act.put, List.setIfInBounds_toArray, List.set_cons_zero, List.set_cons_succ]
        refine helds_take (i := 3) (d := some 50) (v := _) (by assumption) rfl rfl (by kernel_rfl) (fun _ _ _ h => h) (yields_cellX aggO (.tmp 49) rfl rfl (fun wx hx => hx.2) (by first | rfl | go_simp)) ?_
        try simp only [Act.put, List.setIfInBounds_toArray, List.set_cons_zero, List.set_cons_succ]
        refine helds_take (i := 4) (d := some 51) (v := ?vy1_5) (by assumption) rfl rfl (by kernel_rfl) (fun _ _ _ h => h) ?yy1_5 ?_; case yy1_5 => (refine Or.inl ⟨rfl, fun wx hS => ?_⟩; go_simp; try with_reducible rfl)
        try simp only [Act.put, List.setIfInBounds_toArray, List.set_cons_zero, List.set_cons_succ]
        refine helds_one (i := 5) rfl (by kernel_rfl) rfl (fun K hK => ?_)
        refine wp_callD (d := some 52) (f := 29) (args := #[.slice A9 (n - 4) c9]) rfl (by simp [execOp, go_sem]; done) ?_
        refine (clone_any A9 (d.drop 4) (n - 4) c9 (by rw [List.length_drop, HN.out]) ((R9.out.below (below_of_none GZ.out)).more GZ.out.size) (by have := HL.out; omega)).mono ?_
        rintro e w8 ⟨v8, rfl, o8, g8⟩
        refine ⟨_, rfl, ?_⟩
        have O8 := Lib.hid (o8.base_ (grown_trans' T6.out GZ.out).size)
        have G8 := Lib.hid (grown_trans' (grown_trans' T6.out GZ.out) g8)
        have S8 := Lib.hid ((S6.out.kept GZ.out).kept g8)
        have hS8 : (fun x => x.cell? ⟨wr.heap.size, 1, none⟩ = some (.int .i64 2) ∧ x.cell? ⟨wr.heap.size, 2, none⟩ = some (.bool false)) w8 := ⟨S8.out.at_ rfl, S8.out.at_ rfl⟩
        clear o8 g8
        refine hK.out _ _ (by assumption) (fun _ => ?_)
        clear hK K
        try simp only [Act.put, List.setIfInBounds_toArray, List.set_cons_zero, List.set_cons_succ]
        refine helds_take (i := 6) (d := some 2) (v := ?vy1_6) (by assumption) rfl rfl (by kernel_rfl) (fun _ _ _ h => h) ?yy1_6 ?_; case yy1_6 => (refine Or.inl ⟨rfl, fun wx hS => ?_⟩; go_simp; try with_reducible rfl)
        try simp only [Act.put, List.setIfInBounds_toArray, List.set_cons_zero, List.set_cons_succ]
        refine helds_take (i := 7) (d := some 3) (v := ?vy1_7) (by assumption) rfl rfl (by kernel_rfl) (fun _ _ _ h => h) ?yy1_7 ?_; case yy1_7 => (refine Or.inl ⟨rfl, fun wx hS => ?_⟩; go_simp; try with_reducible rfl)
        try simp only [Act.put, List.setIfInBounds_toArray, List.set_cons_zero, List.set_cons_succ]
        refine helds_take (i := 8) (d := some 4) (v := ?vy1_8) (by assumption) rfl rfl (by kernel_rfl) (fun _ _ _ h => h) ?yy1_8 ?_; case yy1_8 => (refine Or.inl ⟨rfl, fun wx hS => ?_⟩; go_simp; try with_reducible rfl)
        try simp only [Act.put, List.setIfInBounds_toArray, List.set_cons_zero, List.set_cons_succ]
        refine helds_take (i := 9) (d := some 5) (v := ?vy1_9) (by assumption) rfl rfl (by kernel_rfl) (fun _ _ _ h => h) ?yy1_9 ?_; case yy1_9 => (refine Or.inl ⟨rfl, fun wx hS => ?_⟩; go_simp; try with_reducible rfl)
        try simp only [Act.put, List.setIfInBounds_toArray, List.set_cons_zero, List.set_cons_succ]
        refine held_end (by kernel_rfl) ?_ _
        clear hSz hS8 hSd
        go_wp2
        ((try simp only [Exit.inBlock, Exit.then]); refine bodyPost_ret (results_tmp4 rfl _ _ _) rfl ?_)
        show AuR w _ (auF 3 37 d) _
        rw [HA.out]
        exact ⟨v8, rfl, O8.out, G8.out⟩
      · have hp : [2, 2, 2, 1].isPrefixOf d = false := Bool.eq_false_iff.2 hp
        have HP := Lib.hid (And.intro hp True.intro)
        have PP := Lib.hid (show [0, 2, 2, 0].isPrefixOf d = false from p0)
        clear hgw hp p0
        go_wp2_with (first
         | (refine wpList_storeC (off := 0) (p := [.slice B2 4 q2, .int .i64 2, .bool false]) szH rfl (.tmp 7) (.tmp 37) rfl (.agg #[.slice B2 4 q2, .int .i64 2, .bool false]) rfl (fun u hu => by simp at hu; rcases hu with rfl | rfl | rfl <;> rfl) (CB.new wr 67 [.slice none 0 0, .int .i64 0, .bool false]) rfl (by simp) (by first | rfl | go_simp) (by first | rfl | go_simp) ?_
            intro w6 h6 g6
            have N6 := Lib.hid (grown_row (grown_alloc wr (.cells #[.slice none 0 0, .int .i64 0, .bool false] 67) none) g6 (fun z hz => by injection hz with hz; omega))
            have S6 := Lib.hid (show CB w6 wr.heap.size 67 [.slice B2 4 q2, .int .i64 2, .bool false] from h6)
            have T6 := Lib.hid (grown_trans' U3.out (grown_trans' GW.out N6.out))
            have D6 := Lib.hid ((D3.out.kept GW.out).kept N6.out)
            have c3 : w6.cell? ⟨w.heap.size, 3, none⟩ = some (.slice A n cap) := D6.out.at_ rfl
            have s0 : w6.cell? ⟨wr.heap.size, 0, none⟩ = some (.slice B2 4 q2) := S6.out.at_ rfl
            have X6 := Lib.hid ((Q2.out.below (below_of_none (grown_trans' GW.out N6.out))).more (grown_trans' GW.out N6.out).size)
            clear h6 g6)
         | (go_at_call 28
            refine (cutPrefix_no A B2 d [2, 2, 2, 1] n 4 cap q2 HN.out rfl ((HR.out.below (below_of_none T6.out)).more T6.out.size) X6.out HP.out.1).mono ?_
            rintro e wv ⟨rfl, hwv⟩
            subst hwv))
        go_roundw
        case rel => exact Or.inr (Or.inr (Or.inl ⟨rfl, PP.out, HP.out.1, grown_trans' GW.out N6.out⟩))
        case measure => simp [intOf]
    · skip
      have hix := fun wx => (show (Instr.index 68 (.agg #[.slice B1 4 q1, .int .i64 0, .bool false, .slice B2 4 q2, .int .i64 2, .bool false, .slice B3 4 q3, .int .i64 2, .bool true]) (.int .i64 2)).run Try.prog wx = .ok (.agg #[.slice B3 4 q3, .int .i64 2, .bool true]) wx from by kernel_rfl)
      have GW := Lib.hid hgw
      by_cases hp : [2, 2, 2, 2].isPrefixOf d = true
      · have HA := Lib.hid (show auF 3 37 d = (2, true, d.drop 4, true) by rw [auF, if_neg (by simp), if_neg (by rw [HE.out]; simp), if_neg (by rw [p0]; simp), if_neg (by rw [p1]; simp), if_pos hp])
        have HP := Lib.hid hp
        clear hgw hp p0 p1
        go_wp2_with (first
         | (refine wpList_storeC (off := 0) (p := [.slice B3 4 q3, .int .i64 2, .bool true]) szH rfl (.tmp 7) (.tmp 37) rfl (.agg #[.slice B3 4 q3, .int .i64 2, .bool true]) rfl (fun u hu => by simp at hu; rcases hu with rfl | rfl | rfl <;> rfl) (CB.new wr 67 [.slice none 0 0, .int .i64 0, .bool false]) rfl (by simp) (by first | rfl | go_simp) (by first | rfl | go_simp) ?_
            intro w6 h6 g6
            have N6 := Lib.hid (grown_row (grown_alloc wr (.cells #[.slice none 0 0, .int .i64 0, .bool false] 67) none) g6 (fun z hz => by injection hz with hz; omega))
            have S6 := Lib.hid (show CB w6 wr.heap.size 67 [.slice B3 4 q3, .int .i64 2, .bool true] from h6)
            have T6 := Lib.hid (grown_trans' U3.out (grown_trans' GW.out N6.out))
            have D6 := Lib.hid ((D3.out.kept GW.out).kept N6.out)
            have c3 : w6.cell? ⟨w.heap.size, 3, none⟩ = some (.slice A n cap) := D6.out.at_ rfl
            have s0 : w6.cell? ⟨wr.heap.size, 0, none⟩ = some (.slice B3 4 q3) := S6.out.at_ rfl
            have X6 := Lib.hid ((Q3.out.below (below_of_none (grown_trans' GW.out N6.out))).more (grown_trans' GW.out N6.out).size)
            clear h6 g6)
         | (go_at_call 28
            refine (cutPrefix_yes A B3 d [2, 2, 2, 2] n 4 cap q3 HN.out rfl ((HR.out.below (below_of_none T6.out)).more T6.out.size) X6.out HP.out (by decide)).mono ?_
            rintro e wv ⟨A9, c9, rfl, r9, hwv⟩
            subst hwv
            have R9 := Lib.hid r9
            clear r9))
        obtain ⟨wz, hwz⟩ : ∃ x, wv.drew = x := ⟨_, rfl⟩
        have GZ := Lib.hid (show wv.grownBy wz none by rw [← hwz]; exact grown_drew (World.grownBy.refl _ none))
        have SZ := Lib.hid (S6.out.kept GZ.out)
        have hSz : (fun x => x.cell? ⟨wr.heap.size, 1, none⟩ = some (.int .i64 2) ∧ x.cell? ⟨wr.heap.size, 2, none⟩ = some (.bool true)) wz := ⟨SZ.out.at_ rfl, SZ.out.at_ rfl⟩
        clear c3 s0
        refine helds_begin (fun x => x.cell? ⟨wr.heap.size, 1, none⟩ = some (.int .i64 2) ∧ x.cell? ⟨wr.heap.size, 2, none⟩ = some (.bool true)) (by kernel_rfl) (by rw [hwz]; exact hSz) (fun hSd => ?_)
        try rw [hwz]
        try rw [hwz] at hSd
        refine helds_take (i := 0) (d := some 47) (v := ?vy2_1) (by assumption) rfl rfl (by kernel_rfl) (fun _ _ _ h => h) ?yy2_1 ?_; case yy2_1 => (refine Or.inl ⟨rfl, fun wx hS => ?_⟩; go_simp; try with_reducible rfl)
        try simp only [Act.put, List.setIfInBounds_toArray, List.set_cons_zero, List.set_cons_succ]
        refine helds_take (i := 1) (d := some 48) (v := _) (by assumption) rfl rfl (by kernel_rfl) (fun _ _ _ h => h) (yields_cellX aggI (.tmp 47) rfl rfl (fun wx hx => hx.1) (by first | rfl | go_simp)) ?_
        try simp only [Act.put, List.setIfInBounds_toArray, List.set_cons_zero, List.set_cons_succ]
        refine helds_take (i := 2) (d := some 49) (v := ?vy2_3) (by assumption) rfl rfl (by kernel_rfl) (fun _ _ _ h => h) ?yy2_3 ?_; case yy2_3 => (refine Or.inl ⟨rfl, fun wx hS => ?_⟩; go_simp; try with_reducible rfl)
        try simp only [Act.put, List.setIfInBounds_toArray, List.set_cons_zero, List.set_cons_succ]
        refine helds_take (i := 3) (d := some 50) (v := _) (by assumption) rfl rfl (by kernel_rfl) (fun _ _ _ h => h) (yields_cellX aggO (.tmp 49) rfl rfl (fun wx hx => hx.2) (by first | rfl | go_simp)) ?_
        try simp only [Act.put, List.setIfInBounds_toArray, List.set_cons_zero, List.set_cons_succ]
        refine helds_take (i := 4) (d := some 51) (v := ?vy2_5) (by assumption) rfl rfl (by kernel_rfl) (fun _ _ _ h => h) ?yy2_5 ?_; case yy2_5 => (refine Or.inl ⟨rfl, fun wx hS => ?_⟩; go_simp; try with_reducible rfl)
        try simp only [Act.put, List.setIfInBounds_toArray, List.set_cons_zero, List.set_cons_succ]
        refine helds_one (i := 5) rfl (by kernel_rfl) rfl (fun K hK => ?_)
        refine wp_callD (d := some 52) (f := 29) (args := #[.slice A9 (n - 4) c9]) rfl (by simp [execOp, go_sem]; done) ?_
        refine (clone_any A9 (d.drop 4) (n - 4) c9 (by rw [List.length_drop, HN.out]) ((R9.out.below (below_of_none GZ.out)).more GZ.out.size) (by have := HL.out; omega)).mono ?_
        rintro e w8 ⟨v8, rfl, o8, g8⟩
        refine ⟨_, rfl, ?_⟩
        have O8 := Lib.hid (o8.base_ (grown_trans' T6.out GZ.out).size)
        have G8 := Lib.hid (grown_trans' (grown_trans' T6.out GZ.out) g8)
        have S8 := Lib.hid ((S6.out.kept GZ.out).kept g8)
        have hS8 : (fun x => x.cell? ⟨wr.heap.size, 1, none⟩ = some (.int .i64 2) ∧ x.cell? ⟨wr.heap.size, 2, none⟩ = some (.bool true)) w8 := ⟨S8.out.at_ rfl, S8.out.at_ rfl⟩
        clear o8 g8
        refine hK.out _ _ (by assumption) (fun _ => ?_)
        clear hK K
        try simp only [Act.put, List.setIfInBounds_toArray, List.set_cons_zero, List.set_cons_succ]
        refine helds_take (i := 6) (d := some 2) (v := ?vy2_6) (by assumption) rfl rfl (by kernel_rfl) (fun _ _ _ h => h) ?yy2_6 ?_; case yy2_6 => (refine Or.inl ⟨rfl, fun wx hS => ?_⟩; go_simp; try with_reducible rfl)
        try simp only [Act.put, List.setIfInBounds_toArray, List.set_cons_zero, List.set_cons_succ]
        refine helds_take (i := 7) (d := some 3) (v := ?vy2_7) (by assumption) rfl rfl (by kernel_rfl) (fun _ _ _ h => h) ?yy2_7 ?_; case yy2_7 => (refine Or.inl ⟨rfl, fun wx hS => ?_⟩; go_simp; try with_reducible rfl)
        try simp only [Act.put, List.setIfInBounds_toArray, List.set_cons_zero, List.set_cons_succ]
        refine helds_take (i := 8) (d := some 4) (v := ?vy2_8) (by assumption) rfl rfl (by kernel_rfl) (fun _ _ _ h => h) ?yy2_8 ?_; case yy2_8 => (refine Or.inl ⟨rfl, fun wx hS => ?_⟩; go_simp; try with_reducible rfl)
        try simp only [Act.put, List.setIfInBounds_toArray, List.set_cons_zero, List.set_cons_succ]
        refine helds_take (i := 9) (d := some 5) (v := ?vy2_9) (by assumption) rfl rfl (by kernel_rfl) (fun _ _ _ h => h) ?yy2_9 ?_; case yy2_9 => (refine Or.inl ⟨rfl, fun wx hS => ?_⟩; go_simp; try with_reducible rfl)
        try simp only [Act.put, List.setIfInBounds_toArray, List.set_cons_zero, List.set_cons_succ]
        refine held_end (by kernel_rfl) ?_ _
        clear hSz hS8 hSd
        go_wp2
        ((try simp only [Exit.inBlock, Exit.then]); refine bodyPost_ret (results_tmp4 rfl _ _ _) rfl ?_)
        show AuR w _ (auF 3 37 d) _
        rw [HA.out]
        exact ⟨v8, rfl, O8.out, G8.out⟩
      · have hp : [2, 2, 2, 2].isPrefixOf d = false := Bool.eq_false_iff.2 hp
        have HP := Lib.hid (And.intro hp True.intro)
        have PP := Lib.hid (show [0, 2, 2, 0].isPrefixOf d = false ∧ [2, 2, 2, 1].isPrefixOf d = false from ⟨p0, p1⟩)
        clear hgw hp p0 p1
        go_wp2_with (first
         | (refine wpList_storeC (off := 0) (p := [.slice B3 4 q3, .int .i64 2, .bool true]) szH rfl (.tmp 7) (.tmp 37) rfl (.agg #[.slice B3 4 q3, .int .i64 2, .bool true]) rfl (fun u hu => by simp at hu; rcases hu with rfl | rfl | rfl <;> rfl) (CB.new wr 67 [.slice none 0 0, .int .i64 0, .bool false]) rfl (by simp) (by first | rfl | go_simp) (by first | rfl | go_simp) ?_
            intro w6 h6 g6
            have N6 := Lib.hid (grown_row (grown_alloc wr (.cells #[.slice none 0 0, .int .i64 0, .bool false] 67) none) g6 (fun z hz => by injection hz with hz; omega))
            have S6 := Lib.hid (show CB w6 wr.heap.size 67 [.slice B3 4 q3, .int .i64 2, .bool true] from h6)
            have T6 := Lib.hid (grown_trans' U3.out (grown_trans' GW.out N6.out))
            have D6 := Lib.hid ((D3.out.kept GW.out).kept N6.out)
            have c3 : w6.cell? ⟨w.heap.size, 3, none⟩ = some (.slice A n cap) := D6.out.at_ rfl
            have s0 : w6.cell? ⟨wr.heap.size, 0, none⟩ = some (.slice B3 4 q3) := S6.out.at_ rfl
            have X6 := Lib.hid ((Q3.out.below (below_of_none (grown_trans' GW.out N6.out))).more (grown_trans' GW.out N6.out).size)
            clear h6 g6)
         | (go_at_call 28
            refine (cutPrefix_no A B3 d [2, 2, 2, 2] n 4 cap q3 HN.out rfl ((HR.out.below (below_of_none T6.out)).more T6.out.size) X6.out HP.out.1).mono ?_
            rintro e wv ⟨rfl, hwv⟩
            subst hwv))
        go_roundw
        case rel => exact Or.inr (Or.inr (Or.inr ⟨rfl, PP.out.1, PP.out.2, HP.out.1, grown_trans' GW.out N6.out⟩))
        case measure => simp [intOf]
    · have GW := Lib.hid hgw
      have HA := Lib.hid (show auF 3 37 d = (0, false, [], false) by rw [auF, if_neg (by simp), if_neg (by rw [HE.out]; simp), if_neg (by rw [p0]; simp), if_neg (by rw [p1]; simp), if_neg (by rw [p2]; simp)])
      clear hgw p0 p1 p2
      go_wp2
      ((try simp only [Exit.inBlock, Exit.then]); refine bodyPost_ret (results_tmp4 rfl _ _ _) rfl ?_)
      show AuR w _ (auF 3 37 d) _
      rw [HA.out]
      exact ⟨_, rfl, OwnB.nil_ _ _ _, grown_trans' U3.out GW.out⟩
theorem auth_any (A : Option Addr) (k vb o : Int) (d : List UInt8) (n cap : Nat) (hn : d.length = n) (hr : RB w w.heap.size A d cap) (hl : n ≤ 100000) :
    Calls Try.prog 17 #[.agg #[.int .i64 k, .int .i64 vb, .int .i64 o, .slice A n cap]] w fun e w' => AuR w w' (auF k o d) e := by
  by_cases hk : k = 3
  · subst hk
    by_cases ho : o = 37
    · subst ho
      cases he : (d == [1, 2, 2]) with
      | false => exact pa_rest A vb d n cap hn hr hl he
      | true =>
        rw [auF, if_neg (by simp), if_pos he]
        exact pa_send A vb d n cap hn hr hl he
    · rw [au_k d (.inr ho)]
      exact pa_o A vb o n cap ho
  · rw [au_k d (.inl hk)]
    exact pa_k A k vb o n cap hk
end
end Go.Proofs.Ytcfhpoigfkljpaa
