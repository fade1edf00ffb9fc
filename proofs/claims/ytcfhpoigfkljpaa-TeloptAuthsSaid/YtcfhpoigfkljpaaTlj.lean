/- The walk of TeloptWrites. -/
import Derived.Test.YtcfhpoigfkljpaaTli
import Derived.Test.YtcfhpoigfkljpaaTll
namespace Go.Proofs.Ytcfhpoigfkljpaa
open Go.ChangeShapes Go.WideShapes Go.RowKit
set_option linter.unusedVariables false

theorem OwnB.blk {w : World} {b : Nat} {A : Option Addr} {n c : Nat} {l : List UInt8} (h : OwnB w b 5 (.slice A n c) l) : ∀ a, A = some a → 0 < l.length → a.block < w.heap.size := by
  intro a ha _
  subst ha
  exact (h.lt a.block rfl).2
theorem RP.new1 (w : World) (ty : TypeId) (t : Tl) (V : Option Addr) (n c : Nat) (hn : n = t.data.length) (hr : RB w w.heap.size V t.data c) :
    RP (w.alloc (.cells #[.int .i64 t.kind, .int .i64 t.verb, .int .i64 t.opt, .slice V n c] ty)) (w.alloc (.cells #[.int .i64 t.kind, .int .i64 t.verb, .int .i64 t.opt, .slice V n c] ty)).heap.size (some ⟨w.heap.size, 0, none⟩) [t] 1 := by
  subst hn
  refine ⟨Nat.le_refl _, by simp [maxLen], .inr ⟨_, rfl, fun k x hx => ?_⟩⟩
  match k, hx with
  | 0, hx =>
    simp at hx
    subst hx
    have h := CB.new w ty [.int .i64 t.kind, .int .i64 t.verb, .int .i64 t.opt, .slice V t.data.length c]
    exact ⟨by rw [World.size_alloc]; exact Nat.lt_succ_self _, h.at_ rfl, h.at_ rfl, h.at_ rfl, V, c, h.at_ rfl, (hr.alloc (Nat.le_refl _) _).more (by rw [World.size_alloc]; omega)⟩
  | k + 1, hx => simp at hx
theorem wpList_loadCg {P : Program} {w : World} {ops : Array Oper} {rest : List Oper} {o : Oper} {a : Act} {Q : Exit → Act → World → Prop} {ty t : TypeId} {n g off : Nat} {cs p : List Value} (hT : AggT P ty n) (hw : Region.wanted o (yielded ops a.tmps) = true) (x : Operand) (ho : o.op = .load ty x) (h : CB w g t cs) (hp : (cs.drop off).take n = p) (hl : off + n ≤ cs.length) (hx : a.eval x = .pointer (some ⟨g, off, none⟩))
    (hk : wpList P ops Q rest (a.put o.dst (.agg p.toArray)) w) : wpList P ops Q (o :: rest) a w := by
  refine wpList_step fun K hK => ?_
  rw [if_pos hw]
  unfold Oper.wp execOp
  simp only [ho, hx, Instr.loadAt, Instr.sureAddr, Sem.run_bind, Sem.run_pure, Result.andThen_ok, run_loadC hT h hp hl]
  exact hK _ _ hk
set_option maxRecDepth 20000 in
set_option maxHeartbeats 8000000 in
theorem tw_long (w : World) (k v o : Int) (d : List UInt8) (A : Option Addr) (n cap : Nat) (hn : d.length = n) (hr : RB w w.heap.size A d cap) (hl : 4000 < n) :
    Calls Try.prog 3 #[.agg #[.int .i64 k, .int .i64 v, .int .i64 o, .slice A n cap]] w fun e w' => e = .returned (.bool true) ∧ Below w.heap.size w w' := by
  have hni : (4000 : Int) < (n : Int) := by omega
  clear hn hr hl
  go_enter Try.func3, Try.ntmps3
  go_wp2_with (first
    | (go_at_call 8
       refine (speaks_any _).mono ?_
       rintro e w1 ⟨rfl, g1⟩
       have G1 := Lib.hid (grown_trans' (grown_alloc w (.cells #[.int .i64 k, .int .i64 v, .int .i64 o, .slice A n cap] 24) none) g1)
       have c3 : w1.cell? ⟨w.heap.size, 3, none⟩ = some (.slice A n cap) := ((CB.new w 24 [.int .i64 k, .int .i64 v, .int .i64 o, .slice A n cap]).kept g1).at_ rfl
       clear g1))
  go_ret
  exact ⟨rfl, below_of_none G1.out⟩
set_option maxRecDepth 20000 in
set_option maxHeartbeats 8000000 in
theorem tw_no (w : World) (k v o : Int) (d : List UInt8) (A : Option Addr) (n cap : Nat) (hn : d.length = n) (hr : RB w w.heap.size A d cap) (hl : ¬ 4000 < n) (he : wrE ⟨k, v, o, d⟩ ≠ 0) :
    Calls Try.prog 3 #[.agg #[.int .i64 k, .int .i64 v, .int .i64 o, .slice A n cap]] w fun e w' => e = .returned (.bool true) ∧ Below w.heap.size w w' := by
  have HR := Lib.hid hr
  have HN := Lib.hid hn
  have HNL := Lib.hid hl
  have hni : ¬ (4000 : Int) < (n : Int) := by omega
  obtain ⟨en, hen⟩ : ∃ x, wrE ⟨k, v, o, d⟩ = x := ⟨_, rfl⟩
  obtain ⟨bs, hbs⟩ : ∃ x, wrF ⟨k, v, o, d⟩ = x := ⟨_, rfl⟩
  obtain ⟨bn, hbn⟩ : ∃ x, bs.length = x := ⟨_, rfl⟩
  have HEN := Lib.hid hen
  have HBS := Lib.hid hbs
  have HBN := Lib.hid hbn
  have hee : (en == 0) = false := by rw [← hen, beq_eq_false_iff_ne]; exact he
  clear hn hr hl hen hbs hbn he
  go_enter Try.func3, Try.ntmps3
  go_wp2_with (first
    | (go_at_call 8
       refine (speaks_any _).mono ?_
       rintro e w1 ⟨rfl, g1⟩
       have C1 := Lib.hid ((CB.new w 24 [.int .i64 k, .int .i64 v, .int .i64 o, .slice A n cap]).kept g1)
       have G1 := Lib.hid (grown_trans' (grown_alloc w (.cells #[.int .i64 k, .int .i64 v, .int .i64 o, .slice A n cap] 24) none) g1)
       have c3 : w1.cell? ⟨w.heap.size, 3, none⟩ = some (.slice A n cap) := C1.out.at_ rfl
       have c3a := fun x => cell_alloc c3 x
       clear g1)
    | (at_builtin
       refine wpList_appB byteT rfl (.tmp 19) (.tmp 21) rfl (OwnB.new0 w1 w.heap.size 5 G1.out.size) ((HR.out.below (below_of_none G1.out)).alloc (G1.out.size) _) (by first | rfl | go_simp) (by rw [HN.out]; first | rfl | go_simp) (by rw [HN.out]; have := HNL.out; simp; omega) (by rw [World.size_alloc]; have := G1.out.size; omega) ?_
       intro v2 w2 o2 g2 _ a2
       rw [List.nil_append] at o2
       obtain ⟨A2, cp2, hv2, r2, -⟩ := o2.shape
       rw [HN.out] at hv2
       subst hv2
       have N2 := Lib.hid (grown_row (grown_alloc w1 (.cells #[] 5) none) g2 (fun z hz => by simp [Value.ownBlock] at hz; omega))
       have O2 := Lib.hid o2
       have G2 := Lib.hid (grown_trans' G1.out N2.out)
       have C2 := Lib.hid (C1.out.kept N2.out)
       clear o2 g2 a2 r2 c3 c3a)
    | (refine wpList_loadC (off := 0) (p := [.int .i64 k, .int .i64 v, .int .i64 o, .slice A n cap]) aggT4 rfl (.tmp 1) rfl C2.out rfl (by simp) (by first | rfl | go_simp) ?_)
    | (refine wpList_storeC (off := 0) (p := [.int .i64 k, .int .i64 v, .int .i64 o, .slice A n cap]) szT rfl (.tmp 4) (.tmp 23) rfl (.agg #[.int .i64 k, .int .i64 v, .int .i64 o, .slice A n cap]) rfl (fun u hu => by simp at hu; rcases hu with rfl | rfl | rfl | rfl <;> rfl) (CB.new w2 24 [.int .i64 0, .int .i64 0, .int .i64 0, .slice none 0 0]) rfl (by simp) (by first | rfl | go_simp) (by first | rfl | go_simp) ?_
       intro w3 h3 g3
       have N3 := Lib.hid (grown_row (grown_alloc w2 (.cells #[.int .i64 0, .int .i64 0, .int .i64 0, .slice none 0 0] 24) none) g3 (fun z hz => by injection hz with hz; omega))
       have D3 := Lib.hid (show CB w3 w2.heap.size 24 [.int .i64 k, .int .i64 v, .int .i64 o, .slice A n cap] from h3)
       clear h3 g3)
    | (refine wpList_storeC (off := 3) (p := [.slice A2 n cp2]) szB rfl (.tmp 25) (.tmp 24) rfl (.slice A2 n cp2) rfl (fun u hu => by rw [List.mem_singleton.1 hu]; rfl) D3.out rfl (by simp) (by first | rfl | go_simp) (by first | rfl | go_simp) ?_
       intro w4 h4 g4
       have N4 := Lib.hid (grown_row N3.out g4 (fun z hz => by injection hz with hz; omega))
       have D4 := Lib.hid (show CB w4 w2.heap.size 24 [.int .i64 k, .int .i64 v, .int .i64 o, .slice A2 n cp2] from h4)
       have C4 := Lib.hid (C2.out.kept N4.out)
       have G4 := Lib.hid (grown_trans' G2.out N4.out)
       have O4 := Lib.hid (OwnB.none_ O2.out N4.out)
       clear h4 g4)
    | (refine wpList_loadC (off := 0) (p := [.int .i64 k, .int .i64 v, .int .i64 o, .slice A2 n cp2]) aggT4 rfl (.tmp 4) rfl D4.out rfl (by simp) (by first | rfl | go_simp) ?_)
    | (go_at_call 9
       obtain ⟨A2', cp2', e2, r4, -⟩ := O4.out.shape
       rw [HN.out] at e2
       injection e2 with e2 _ e3
       subst e2 e3
       refine (write_any w4 ⟨k, v, o, d⟩ A2 n cp2 HN.out r4 (by have := HNL.out; omega)).mono ?_
       rintro e w5 ⟨v5, rfl, o5, g5⟩
       rw [HBS.out] at o5
       obtain ⟨A5, c5, e5, r5, -⟩ := o5.shape
       rw [HBN.out] at e5
       subst e5
       have O5 := Lib.hid o5
       have G5 := Lib.hid (grown_trans' G4.out g5)
       have C5 := Lib.hid (C4.out.kept g5)
       have O45 := Lib.hid (OwnB.none_ O4.out g5)
       rw [HEN.out]
       clear o5 g5 r4 r5)
    | (refine wpList_loadC (off := 0) (p := [.int .i64 k, .int .i64 v, .int .i64 o, .slice A n cap]) aggT4 rfl (.tmp 1) rfl C5.out rfl (by simp) (by first | rfl | go_simp) ?_)
    | (go_at_call 10
       refine (refWrite_any w5 ⟨k, v, o, d⟩ A n cap HN.out ((HR.out.below (below_of_none G5.out)).more G5.out.size) (by have := HNL.out; omega)).mono ?_
       rintro e w6 ⟨v6, rfl, o6, g6⟩
       rw [HBS.out] at o6
       obtain ⟨A6, c6, e6, r6, -⟩ := o6.shape
       rw [HBN.out] at e6
       subst e6
       rw [HEN.out]
       have G6 := Lib.hid (grown_trans' G5.out g6)
       have C6 := Lib.hid (C5.out.kept g6)
       have O56 := Lib.hid (OwnB.none_ O5.out g6)
       have o46 := OwnB.none_ O45.out g6
       obtain ⟨A7, c7, e7, r7, -⟩ := o46.shape
       rw [HN.out] at e7
       injection e7 with e7 _ e8
       subst e7 e8
       obtain ⟨A8, c8, e9, r8, -⟩ := O56.out.shape
       rw [HBN.out] at e9
       injection e9 with e9 _ e10
       subst e9 e10
       have q1 : (convert 22 9 (.slice A5 bn c5)).run Try.prog w6 = .ok (.string ⟨bs.toArray⟩) w6 := by have := run_strB (P := Try.prog) byteT strTy r8; rw [HBN.out] at this; exact this
       have q2 : (convert 22 9 (.slice A6 bn c6)).run Try.prog w6 = .ok (.string ⟨bs.toArray⟩) w6 := by have := run_strB (P := Try.prog) byteT strTy r6; rw [HBN.out] at this; exact this
       have q3 : (convert 22 9 (.slice A2 n cp2)).run Try.prog w6 = .ok (.string ⟨d.toArray⟩) w6 := by have := run_strB (P := Try.prog) byteT strTy r7; rw [HN.out] at this; exact this
       have q4 : (convert 22 9 (.slice A n cap)).run Try.prog w6 = .ok (.string ⟨d.toArray⟩) w6 := by have := run_strB (P := Try.prog) byteT strTy (HR.out.below (below_of_none G6.out)); rw [HN.out] at this; exact this
       have c3 : w6.cell? ⟨w.heap.size, 3, none⟩ = some (.slice A n cap) := C6.out.at_ rfl
       clear o6 g6 r6 o46 r7 r8)
    | (go_at_call 11
       refine (newReader_any _).mono ?_
       rintro e w7 ⟨rfl, r7, g7⟩
       have R7 := Lib.hid r7
       have G7 := Lib.hid (grown_trans' G6.out g7)
       have C7 := Lib.hid (C6.out.kept g7)
       have O7 := Lib.hid (OwnB.none_ O56.out g7)
       clear r7 g7 q1 q2 q3 q4 c3))
  go_ret
  exact ⟨rfl, below_of_none G7.out⟩
set_option maxRecDepth 20000 in
set_option maxHeartbeats 8000000 in
theorem tw_3 (w : World) (v o : Int) (d : List UInt8) (A : Option Addr) (n cap : Nat) (hn : d.length = n) (hr : RB w w.heap.size A d cap) (hl : ¬ 4000 < n) (he : wrE ⟨3, v, o, d⟩ = 0) :
    Calls Try.prog 3 #[.agg #[.int .i64 3, .int .i64 v, .int .i64 o, .slice A n cap]] w fun e w' => e = .returned (.bool true) ∧ Below w.heap.size w w' := by
  have HR := Lib.hid hr
  have HN := Lib.hid hn
  have HNL := Lib.hid hl
  have hni : ¬ (4000 : Int) < (n : Int) := by omega
  obtain ⟨en, hen⟩ : ∃ x, wrE ⟨3, v, o, d⟩ = x := ⟨_, rfl⟩
  obtain ⟨bs, hbs⟩ : ∃ x, wrF ⟨3, v, o, d⟩ = x := ⟨_, rfl⟩
  obtain ⟨bn, hbn⟩ : ∃ x, bs.length = x := ⟨_, rfl⟩
  have HEN := Lib.hid hen
  have HBS := Lib.hid hbs
  have HBN := Lib.hid hbn
  have HBL := Lib.hid (show bs.length ≤ 6005 by rw [← hbs]; exact wrF_small he)
  have HFD := Lib.hid (show feedT ts0 bs = [⟨3, 0, o, d⟩] by have h := wr_back he; rw [← hbs]; unfold feedT; rw [run_end, h.2, if_neg (by simp [ts0]), h.1]; rfl)
  have HED := Lib.hid (show (endT ts0 bs).err = 0 by have h := wr_back he; rw [← hbs, h.2]; rfl)
  rw [he] at hen
  subst hen
  clear hn hr hl hbs hbn he
  go_enter Try.func3, Try.ntmps3
  go_wp2_with (first
    | (go_at_call 8
       refine (speaks_any _).mono ?_
       rintro e w1 ⟨rfl, g1⟩
       have C1 := Lib.hid ((CB.new w 24 [.int .i64 3, .int .i64 v, .int .i64 o, .slice A n cap]).kept g1)
       have G1 := Lib.hid (grown_trans' (grown_alloc w (.cells #[.int .i64 3, .int .i64 v, .int .i64 o, .slice A n cap] 24) none) g1)
       have c3 : w1.cell? ⟨w.heap.size, 3, none⟩ = some (.slice A n cap) := C1.out.at_ rfl
       have c3a := fun x => cell_alloc c3 x
       clear g1)
    | (at_builtin
       refine wpList_appB byteT rfl (.tmp 19) (.tmp 21) rfl (OwnB.new0 w1 w.heap.size 5 G1.out.size) ((HR.out.below (below_of_none G1.out)).alloc (G1.out.size) _) (by first | rfl | go_simp) (by rw [HN.out]; first | rfl | go_simp) (by rw [HN.out]; have := HNL.out; simp; omega) (by rw [World.size_alloc]; have := G1.out.size; omega) ?_
       intro v2 w2 o2 g2 _ a2
       rw [List.nil_append] at o2
       obtain ⟨A2, cp2, hv2, r2, -⟩ := o2.shape
       rw [HN.out] at hv2
       subst hv2
       have N2 := Lib.hid (grown_row (grown_alloc w1 (.cells #[] 5) none) g2 (fun z hz => by simp [Value.ownBlock] at hz; omega))
       have O2 := Lib.hid o2
       have G2 := Lib.hid (grown_trans' G1.out N2.out)
       have C2 := Lib.hid (C1.out.kept N2.out)
       clear o2 g2 a2 r2 c3 c3a)
    | (refine wpList_loadC (off := 0) (p := [.int .i64 3, .int .i64 v, .int .i64 o, .slice A n cap]) aggT4 rfl (.tmp 1) rfl C2.out rfl (by simp) (by first | rfl | go_simp) ?_)
    | (refine wpList_storeC (off := 0) (p := [.int .i64 3, .int .i64 v, .int .i64 o, .slice A n cap]) szT rfl (.tmp 4) (.tmp 23) rfl (.agg #[.int .i64 3, .int .i64 v, .int .i64 o, .slice A n cap]) rfl (fun u hu => by simp at hu; rcases hu with rfl | rfl | rfl | rfl <;> rfl) (CB.new w2 24 [.int .i64 0, .int .i64 0, .int .i64 0, .slice none 0 0]) rfl (by simp) (by first | rfl | go_simp) (by first | rfl | go_simp) ?_
       intro w3 h3 g3
       have N3 := Lib.hid (grown_row (grown_alloc w2 (.cells #[.int .i64 0, .int .i64 0, .int .i64 0, .slice none 0 0] 24) none) g3 (fun z hz => by injection hz with hz; omega))
       have D3 := Lib.hid (show CB w3 w2.heap.size 24 [.int .i64 3, .int .i64 v, .int .i64 o, .slice A n cap] from h3)
       clear h3 g3)
    | (refine wpList_storeC (off := 3) (p := [.slice A2 n cp2]) szB rfl (.tmp 25) (.tmp 24) rfl (.slice A2 n cp2) rfl (fun u hu => by rw [List.mem_singleton.1 hu]; rfl) D3.out rfl (by simp) (by first | rfl | go_simp) (by first | rfl | go_simp) ?_
       intro w4 h4 g4
       have N4 := Lib.hid (grown_row N3.out g4 (fun z hz => by injection hz with hz; omega))
       have D4 := Lib.hid (show CB w4 w2.heap.size 24 [.int .i64 3, .int .i64 v, .int .i64 o, .slice A2 n cp2] from h4)
       have C4 := Lib.hid (C2.out.kept N4.out)
       have G4 := Lib.hid (grown_trans' G2.out N4.out)
       have O4 := Lib.hid (OwnB.none_ O2.out N4.out)
       clear h4 g4)
    | (refine wpList_loadC (off := 0) (p := [.int .i64 3, .int .i64 v, .int .i64 o, .slice A2 n cp2]) aggT4 rfl (.tmp 4) rfl D4.out rfl (by simp) (by first | rfl | go_simp) ?_)
    | (go_at_call 9
       obtain ⟨A2', cp2', e2, r4, -⟩ := O4.out.shape
       rw [HN.out] at e2
       injection e2 with e2 _ e3
       subst e2 e3
       refine (write_any w4 ⟨3, v, o, d⟩ A2 n cp2 HN.out r4 (by have := HNL.out; omega)).mono ?_
       rintro e w5 ⟨v5, rfl, o5, g5⟩
       rw [HBS.out] at o5
       obtain ⟨A5, c5, e5, r5, -⟩ := o5.shape
       rw [HBN.out] at e5
       subst e5
       have O5 := Lib.hid o5
       have G5 := Lib.hid (grown_trans' G4.out g5)
       have C5 := Lib.hid (C4.out.kept g5)
       have O45 := Lib.hid (OwnB.none_ O4.out g5)
       rw [HEN.out]
       clear o5 g5 r4 r5)
    | (refine wpList_loadC (off := 0) (p := [.int .i64 3, .int .i64 v, .int .i64 o, .slice A n cap]) aggT4 rfl (.tmp 1) rfl C5.out rfl (by simp) (by first | rfl | go_simp) ?_)
    | (go_at_call 10
       refine (refWrite_any w5 ⟨3, v, o, d⟩ A n cap HN.out ((HR.out.below (below_of_none G5.out)).more G5.out.size) (by have := HNL.out; omega)).mono ?_
       rintro e w6 ⟨v6, rfl, o6, g6⟩
       rw [HBS.out] at o6
       obtain ⟨A6, c6, e6, r6, -⟩ := o6.shape
       rw [HBN.out] at e6
       subst e6
       rw [HEN.out]
       have G6 := Lib.hid (grown_trans' G5.out g6)
       have C6 := Lib.hid (C5.out.kept g6)
       have O56 := Lib.hid (OwnB.none_ O5.out g6)
       have o46 := OwnB.none_ O45.out g6
       obtain ⟨A7, c7, e7, r7, -⟩ := o46.shape
       rw [HN.out] at e7
       injection e7 with e7 _ e8
       subst e7 e8
       obtain ⟨A8, c8, e9, r8, -⟩ := O56.out.shape
       rw [HBN.out] at e9
       injection e9 with e9 _ e10
       subst e9 e10
       have q1 : (convert 22 9 (.slice A5 bn c5)).run Try.prog w6 = .ok (.string ⟨bs.toArray⟩) w6 := by have := run_strB (P := Try.prog) byteT strTy r8; rw [HBN.out] at this; exact this
       have q2 : (convert 22 9 (.slice A6 bn c6)).run Try.prog w6 = .ok (.string ⟨bs.toArray⟩) w6 := by have := run_strB (P := Try.prog) byteT strTy r6; rw [HBN.out] at this; exact this
       have q3 : (convert 22 9 (.slice A2 n cp2)).run Try.prog w6 = .ok (.string ⟨d.toArray⟩) w6 := by have := run_strB (P := Try.prog) byteT strTy r7; rw [HN.out] at this; exact this
       have q4 : (convert 22 9 (.slice A n cap)).run Try.prog w6 = .ok (.string ⟨d.toArray⟩) w6 := by have := run_strB (P := Try.prog) byteT strTy (HR.out.below (below_of_none G6.out)); rw [HN.out] at this; exact this
       have c3 : w6.cell? ⟨w.heap.size, 3, none⟩ = some (.slice A n cap) := C6.out.at_ rfl
       clear o6 g6 r6 o46 r7 r8)
    | (go_at_call 11
       refine (newReader_any _).mono ?_
       rintro e w7 ⟨rfl, r7, g7⟩
       have R7 := Lib.hid r7
       have G7 := Lib.hid (grown_trans' G6.out g7)
       have C7 := Lib.hid (C6.out.kept g7)
       have O7 := Lib.hid (OwnB.none_ O56.out g7)
       clear r7 g7 q1 q2 q3 q4 c3)
    | (go_at_call 12
       obtain ⟨A8, c8, e8, r8, -⟩ := O7.out.shape
       rw [HBN.out] at e8
       injection e8 with e8 _ e9
       subst e8 e9
       refine (feed_any R7.out ok_ts0 (Nat.le_of_lt R7.out.lt.2) A5 bs bn c5 HBN.out r8 (fun a ha hl => ⟨fun e => by have h1 := O56.out.blk a ha hl; have h2 := R7.out.1; omega, fun e => by simp [Value.ownBlock] at e⟩) (by have := HBL.out; have := HBN.out; omega)).mono ?_
       rintro e w8 ⟨pv8, vf, vs8, rfl, -, o8, m8, -, -⟩
       rw [HFD.out] at o8
       rw [HED.out]
       obtain ⟨Af, cf, rfl, -, -⟩ := o8.shape
       have N8 := Lib.hid (none_feed G7.out R7.out G6.out.size m8)
       have C8 := Lib.hid (C7.out.mod m8 (fun e => by rcases e with e | e; have h2 := C6.out.lt; omega; simp [Value.ownBlock] at e))
       have O8 := Lib.hid o8
       have c0 : w8.cell? ⟨w.heap.size, 0, none⟩ = some (.int .i64 3) := C8.out.at_ rfl
       clear o8 m8 r8)
    | (refine wpList_storeC (off := 0) (p := [.int .i64 3, .int .i64 0, .int .i64 0, .slice none 0 0]) szT rfl (.tmp 12) (.tmp 71) rfl (.agg #[.int .i64 3, .int .i64 0, .int .i64 0, .slice none 0 0]) rfl (fun u hu => by simp at hu; rcases hu with rfl | rfl | rfl | rfl <;> rfl) (CB.new w8 24 [.int .i64 0, .int .i64 0, .int .i64 0, .slice none 0 0]) rfl (by simp) (by first | rfl | go_simp) (by first | rfl | go_simp) ?_
       intro w9 h9 g9
       have N9 := Lib.hid (grown_row (grown_alloc w8 (.cells #[.int .i64 0, .int .i64 0, .int .i64 0, .slice none 0 0] 24) none) g9 (fun z hz => by injection hz with hz; omega))
       have D9 := Lib.hid (show CB w9 w8.heap.size 24 [.int .i64 3, .int .i64 0, .int .i64 0, .slice none 0 0] from h9)
       have C9 := Lib.hid (C8.out.kept N9.out)
       have c0n : w9.cell? ⟨w.heap.size, 0, none⟩ = some (.int .i64 3) := C9.out.at_ rfl
       have c1n : w9.cell? ⟨w.heap.size, 1, none⟩ = some (.int .i64 v) := C9.out.at_ rfl
       have c2n : w9.cell? ⟨w.heap.size, 2, none⟩ = some (.int .i64 o) := C9.out.at_ rfl
       have c3n : w9.cell? ⟨w.heap.size, 3, none⟩ = some (.slice A n cap) := C9.out.at_ rfl
       clear h9 g9 c0)
    | (refine wpList_storeC (off := 3) (p := [.slice A n cap]) szB rfl (.tmp 83) (.tmp 82) rfl (.slice A n cap) rfl (fun u hu => by rw [List.mem_singleton.1 hu]; rfl) D9.out rfl (by simp) (by first | rfl | go_simp) (by first | rfl | go_simp) ?_
       intro w10 h10 g10
       have N10 := Lib.hid (grown_row N9.out g10 (fun z hz => by injection hz with hz; omega))
       have D10 := Lib.hid (show CB w10 w8.heap.size 24 [.int .i64 3, .int .i64 0, .int .i64 0, .slice A n cap] from h10)
       have C10 := Lib.hid (C8.out.kept N10.out)
       have c0t : w10.cell? ⟨w.heap.size, 0, none⟩ = some (.int .i64 3) := C10.out.at_ rfl
       have c1t : w10.cell? ⟨w.heap.size, 1, none⟩ = some (.int .i64 v) := C10.out.at_ rfl
       have c2t : w10.cell? ⟨w.heap.size, 2, none⟩ = some (.int .i64 o) := C10.out.at_ rfl
       have c3t : w10.cell? ⟨w.heap.size, 3, none⟩ = some (.slice A n cap) := C10.out.at_ rfl
       clear h10 g10 c0n c1n c2n c3n)
    | (refine wpList_setC (off := 2) szI rfl (.tmp 89) (.tmp 88) rfl .i64 o D10.out (by simp) (by first | rfl | go_simp) (by first | rfl | go_simp) ?_
       intro w11 h11 g11
       have N11 := Lib.hid (grown_row N10.out g11 (fun z hz => by injection hz with hz; omega))
       have D11 := Lib.hid (show CB w11 w8.heap.size 24 [.int .i64 3, .int .i64 0, .int .i64 o, .slice A n cap] from h11)
       have C11 := Lib.hid (C8.out.kept N11.out)
       have c0e : w11.cell? ⟨w.heap.size, 0, none⟩ = some (.int .i64 3) := C11.out.at_ rfl
       have c1e : w11.cell? ⟨w.heap.size, 1, none⟩ = some (.int .i64 v) := C11.out.at_ rfl
       have c2e : w11.cell? ⟨w.heap.size, 2, none⟩ = some (.int .i64 o) := C11.out.at_ rfl
       have c3e : w11.cell? ⟨w.heap.size, 3, none⟩ = some (.slice A n cap) := C11.out.at_ rfl
       clear h11 g11 c0t c1t c2t c3t)
    | (refine wpList_loadCg (off := 0) (p := [.int .i64 3, .int .i64 0, .int .i64 o, .slice A n cap]) aggT4 (by first | rfl | go_simp) (.tmp 12) rfl D11.out rfl (by simp) (by first | rfl | go_simp) ?_)
    | (go_at_call 13
       have p12 := ((O8.out.none_ (N11.out)).none_ (grown_alloc w11 (.cells #[.int .i64 3, .int .i64 0, .int .i64 o, .slice A n cap] 24) none))
       obtain ⟨A12, c12, e12, f12, -⟩ := p12.shape
       injection e12 with e12 _ e13
       subst e12 e13
       refine (same_any _ Af _ [⟨3, 0, o, d⟩] 1 cf 1 _ rfl f12 (RP.new1 w11 _ ⟨3, 0, o, d⟩ _ _ _ (by first | rfl | exact HN.out.symm) ((HR.out.below (below_of_none (grown_trans' N8.out N11.out))).more (grown_trans' N8.out N11.out).size)) (Nat.le_refl _)).mono ?_
       rintro e w12 ⟨rfl, g12⟩
       have G12 := Lib.hid (grown_trans' (grown_trans' (grown_trans' N8.out N11.out) (grown_alloc w11 _ none)) g12)
       clear g12 p12 f12))
  go_ret
  exact ⟨rfl, below_of_none G12.out⟩
end Go.Proofs.Ytcfhpoigfkljpaa
