/- The walk of TeloptWrites (on). -/
import Derived.Test.YtcfhpoigfkljpaaTlj
namespace Go.Proofs.Ytcfhpoigfkljpaa
open Go.ChangeShapes Go.WideShapes Go.RowKit
set_option linter.unusedVariables false

theorem wp_storeC {P : Program} {w : World} {o : Oper} {d : Option Tmp} {a : Act} {K : Act → World → Prop} {Q : Exit → Act → World → Prop} {ty t : TypeId} {n g off : Nat} {cs p : List Value} (hi : (P.info? ty).map (·.size) = some n) (hd : o.dst = d) (x y : Operand) (ho : o.op = .store ty x y) (v : Value) (hv : v.cells = p.toArray) (h1 : ∀ u ∈ p, u.oneCell' = true) (h : CB w g t cs) (hp : p.length = n) (hl : off + n ≤ cs.length)
    (hx : a.eval x = .pointer (some ⟨g, off, none⟩)) (hy : a.eval y = v)
    (hk : ∀ w', CB w' g t (over cs off p) → w.grownBy w' (some g) → K (a.put d undef) w') : o.wp P a w K Q := by
  subst hd
  unfold Oper.wp execOp
  simp only [ho, hx, hy, Instr.storeAt, Instr.sureAddr, Sem.run_bind, Sem.run_pure, Result.andThen_ok, run_storeC hi v hv h1 h hp hl]
  exact hk _ (h.over off p) (grown_setRow _ _ _)
set_option maxRecDepth 20000 in
set_option maxHeartbeats 8000000 in
theorem tw_1z (w : World) (v o : Int) (d : List UInt8) (A : Option Addr) (n cap : Nat) (hn : d.length = n) (hr : RB w w.heap.size A d cap) (hl : ¬ 4000 < n) (hz : d = []) (he : wrE ⟨1, v, o, d⟩ = 0) :
    Calls Try.prog 3 #[.agg #[.int .i64 1, .int .i64 v, .int .i64 o, .slice A n cap]] w fun e w' => e = .returned (.bool true) ∧ Below w.heap.size w w' := by
  have hn0 : n = 0 := by rw [← hn, hz]; rfl
  have hzz : ((n : Int) == 0) = true := by rw [hn0]; rfl
  have HR := Lib.hid hr
  have HN := Lib.hid hn
  have HNL := Lib.hid hl
  have hni : ¬ (4000 : Int) < (n : Int) := by omega
  obtain ⟨en, hen⟩ : ∃ x, wrE ⟨1, v, o, d⟩ = x := ⟨_, rfl⟩
  obtain ⟨bs, hbs⟩ : ∃ x, wrF ⟨1, v, o, d⟩ = x := ⟨_, rfl⟩
  obtain ⟨bn, hbn⟩ : ∃ x, bs.length = x := ⟨_, rfl⟩
  have HEN := Lib.hid hen
  have HBS := Lib.hid hbs
  have HBN := Lib.hid hbn
  have HBL := Lib.hid (show bs.length ≤ 6005 by rw [← hbs]; exact wrF_small he)
  have HFD := Lib.hid (show feedT ts0 bs = [] by have h := wr_back he; rw [← hbs]; unfold feedT; rw [run_end, h.2, if_neg (by simp [ts0]), h.1]; rw [if_pos rfl, putF_ones, if_pos hz])
  have HED := Lib.hid (show (endT ts0 bs).err = 0 by have h := wr_back he; rw [← hbs, h.2]; rfl)
  rw [he] at hen
  subst hen
  clear hn hr hl hbs hbn he hz hn0
  go_enter Try.func3, Try.ntmps3
  go_wp2_with (first
    | (go_at_call 8
       refine (speaks_any _).mono ?_
       rintro e w1 ⟨rfl, g1⟩
       have C1 := Lib.hid ((CB.new w 24 [.int .i64 1, .int .i64 v, .int .i64 o, .slice A n cap]).kept g1)
       have G1 := Lib.hid (grown_trans' (grown_alloc w (.cells #[.int .i64 1, .int .i64 v, .int .i64 o, .slice A n cap] 24) none) g1)
       have c3 : w1.cell? ⟨w.heap.size, 3, none⟩ = some (.slice A n cap) := C1.out.at_ rfl
       have c3a := fun x => cell_alloc c3 x
       clear g1)
    | (at_builtin
       refine wpList_appB byteT rfl (.tmp 19) (.tmp 21) rfl (OwnB.new0 w1 w.heap.size 5 G1.out.size) ((HR.out.below (below_of_none G1.out)).alloc (G1.out.size) _) (by first | rfl | go_simp) (by rw [HN.out]; first | rfl | go_simp) (by rw [HN.out]; have := HNL.out; simp; omega) (by rw [World.size_alloc]; have := G1.out.size; omega) ?_
       intro v2 w2 o2 g2 _ a2
       rw [List.nil_append] at o2
       obtain ⟨A2, cp2, hv2, r2, -⟩ := o2.shape
       rw [HN.out] at hv2
       subst hv2
       have N2 := Lib.hid (grown_row (grown_alloc w1 (.cells #[] 5) none) g2 (fun z hz => by simp [Value.ownBlock] at hz; omega))
       have O2 := Lib.hid o2
       have G2 := Lib.hid (grown_trans' G1.out N2.out)
       have C2 := Lib.hid (C1.out.kept N2.out)
       clear o2 g2 a2 r2 c3 c3a)
    | (refine wpList_loadC (off := 0) (p := [.int .i64 1, .int .i64 v, .int .i64 o, .slice A n cap]) aggT4 rfl (.tmp 1) rfl C2.out rfl (by simp) (by first | rfl | go_simp) ?_)
    | (refine wpList_storeC (off := 0) (p := [.int .i64 1, .int .i64 v, .int .i64 o, .slice A n cap]) szT rfl (.tmp 4) (.tmp 23) rfl (.agg #[.int .i64 1, .int .i64 v, .int .i64 o, .slice A n cap]) rfl (fun u hu => by simp at hu; rcases hu with rfl | rfl | rfl | rfl <;> rfl) (CB.new w2 24 [.int .i64 0, .int .i64 0, .int .i64 0, .slice none 0 0]) rfl (by simp) (by first | rfl | go_simp) (by first | rfl | go_simp) ?_
       intro w3 h3 g3
       have N3 := Lib.hid (grown_row (grown_alloc w2 (.cells #[.int .i64 0, .int .i64 0, .int .i64 0, .slice none 0 0] 24) none) g3 (fun z hz => by injection hz with hz; omega))
       have D3 := Lib.hid (show CB w3 w2.heap.size 24 [.int .i64 1, .int .i64 v, .int .i64 o, .slice A n cap] from h3)
       clear h3 g3)
    | (refine wpList_storeC (off := 3) (p := [.slice A2 n cp2]) szB rfl (.tmp 25) (.tmp 24) rfl (.slice A2 n cp2) rfl (fun u hu => by rw [List.mem_singleton.1 hu]; rfl) D3.out rfl (by simp) (by first | rfl | go_simp) (by first | rfl | go_simp) ?_
       intro w4 h4 g4
       have N4 := Lib.hid (grown_row N3.out g4 (fun z hz => by injection hz with hz; omega))
       have D4 := Lib.hid (show CB w4 w2.heap.size 24 [.int .i64 1, .int .i64 v, .int .i64 o, .slice A2 n cp2] from h4)
       have C4 := Lib.hid (C2.out.kept N4.out)
       have G4 := Lib.hid (grown_trans' G2.out N4.out)
       have O4 := Lib.hid (OwnB.none_ O2.out N4.out)
       clear h4 g4)
    | (refine wpList_loadC (off := 0) (p := [.int .i64 1, .int .i64 v, .int .i64 o, .slice A2 n cp2]) aggT4 rfl (.tmp 4) rfl D4.out rfl (by simp) (by first | rfl | go_simp) ?_)
    | (go_at_call 9
       obtain ⟨A2', cp2', e2, r4, -⟩ := O4.out.shape
       rw [HN.out] at e2
       injection e2 with e2 _ e3
       subst e2 e3
       refine (write_any w4 ⟨1, v, o, d⟩ A2 n cp2 HN.out r4 (by have := HNL.out; omega)).mono ?_
       rintro e w5 ⟨v5, rfl, o5, g5⟩
       rw [HBS.out] at o5
       obtain ⟨A5, c5, e5, r5, -⟩ := o5.shape
       rw [HBN.out] at e5
       subst e5
       have O5 := Lib.hid o5
       have G5 := Lib.hid (grown_trans' G4.out g5)
       have C5 := Lib.hid (C4.out.kept g5)
       have O45 := Lib.hid (OwnB.none_ O4.out g5)
       rw [HEN.out]
       clear o5 g5 r4 r5)
    | (refine wpList_loadC (off := 0) (p := [.int .i64 1, .int .i64 v, .int .i64 o, .slice A n cap]) aggT4 rfl (.tmp 1) rfl C5.out rfl (by simp) (by first | rfl | go_simp) ?_)
    | (go_at_call 10
       refine (refWrite_any w5 ⟨1, v, o, d⟩ A n cap HN.out ((HR.out.below (below_of_none G5.out)).more G5.out.size) (by have := HNL.out; omega)).mono ?_
       rintro e w6 ⟨v6, rfl, o6, g6⟩
       rw [HBS.out] at o6
       obtain ⟨A6, c6, e6, r6, -⟩ := o6.shape
       rw [HBN.out] at e6
       subst e6
       rw [HEN.out]
       have G6 := Lib.hid (grown_trans' G5.out g6)
       have C6 := Lib.hid (C5.out.kept g6)
       have O56 := Lib.hid (OwnB.none_ O5.out g6)
       have o46 := OwnB.none_ O45.out g6
       obtain ⟨A7, c7, e7, r7, -⟩ := o46.shape
       rw [HN.out] at e7
       injection e7 with e7 _ e8
       subst e7 e8
       obtain ⟨A8, c8, e9, r8, -⟩ := O56.out.shape
       rw [HBN.out] at e9
       injection e9 with e9 _ e10
       subst e9 e10
       have q1 : (convert 22 9 (.slice A5 bn c5)).run Try.prog w6 = .ok (.string ⟨bs.toArray⟩) w6 := by have := run_strB (P := Try.prog) byteT strTy r8; rw [HBN.out] at this; exact this
       have q2 : (convert 22 9 (.slice A6 bn c6)).run Try.prog w6 = .ok (.string ⟨bs.toArray⟩) w6 := by have := run_strB (P := Try.prog) byteT strTy r6; rw [HBN.out] at this; exact this
       have q3 : (convert 22 9 (.slice A2 n cp2)).run Try.prog w6 = .ok (.string ⟨d.toArray⟩) w6 := by have := run_strB (P := Try.prog) byteT strTy r7; rw [HN.out] at this; exact this
       have q4 : (convert 22 9 (.slice A n cap)).run Try.prog w6 = .ok (.string ⟨d.toArray⟩) w6 := by have := run_strB (P := Try.prog) byteT strTy (HR.out.below (below_of_none G6.out)); rw [HN.out] at this; exact this
       have c3 : w6.cell? ⟨w.heap.size, 3, none⟩ = some (.slice A n cap) := C6.out.at_ rfl
       clear o6 g6 r6 o46 r7 r8)
    | (go_at_call 11
       refine (newReader_any _).mono ?_
       rintro e w7 ⟨rfl, r7, g7⟩
       have R7 := Lib.hid r7
       have G7 := Lib.hid (grown_trans' G6.out g7)
       have C7 := Lib.hid (C6.out.kept g7)
       have O7 := Lib.hid (OwnB.none_ O56.out g7)
       clear r7 g7 q1 q2 q3 q4 c3)
    | (go_at_call 12
       obtain ⟨A8, c8, e8, r8, -⟩ := O7.out.shape
       rw [HBN.out] at e8
       injection e8 with e8 _ e9
       subst e8 e9
       refine (feed_any R7.out ok_ts0 (Nat.le_of_lt R7.out.lt.2) A5 bs bn c5 HBN.out r8 (fun a ha hl => ⟨fun e => by have h1 := O56.out.blk a ha hl; have h2 := R7.out.1; omega, fun e => by simp [Value.ownBlock] at e⟩) (by have := HBL.out; have := HBN.out; omega)).mono ?_
       rintro e w8 ⟨pv8, vf, vs8, rfl, -, o8, m8, -, -⟩
       rw [HFD.out] at o8
       rw [HED.out]
       obtain ⟨Af, cf, rfl, -, -⟩ := o8.shape
       have N8 := Lib.hid (none_feed G7.out R7.out G6.out.size m8)
       have C8 := Lib.hid (C7.out.mod m8 (fun e => by rcases e with e | e; have h2 := C6.out.lt; omega; simp [Value.ownBlock] at e))
       have O8 := Lib.hid o8
       have c0 : w8.cell? ⟨w.heap.size, 0, none⟩ = some (.int .i64 1) := C8.out.at_ rfl
       clear o8 m8 r8)
    | (refine wpList_storeC (off := 0) (p := [.int .i64 1, .int .i64 0, .int .i64 0, .slice none 0 0]) szT rfl (.tmp 12) (.tmp 71) rfl (.agg #[.int .i64 1, .int .i64 0, .int .i64 0, .slice none 0 0]) rfl (fun u hu => by simp at hu; rcases hu with rfl | rfl | rfl | rfl <;> rfl) (CB.new w8 24 [.int .i64 0, .int .i64 0, .int .i64 0, .slice none 0 0]) rfl (by simp) (by first | rfl | go_simp) (by first | rfl | go_simp) ?_
       intro w9 h9 g9
       have N9 := Lib.hid (grown_row (grown_alloc w8 (.cells #[.int .i64 0, .int .i64 0, .int .i64 0, .slice none 0 0] 24) none) g9 (fun z hz => by injection hz with hz; omega))
       have D9 := Lib.hid (show CB w9 w8.heap.size 24 [.int .i64 1, .int .i64 0, .int .i64 0, .slice none 0 0] from h9)
       have C9 := Lib.hid (C8.out.kept N9.out)
       have c0n : w9.cell? ⟨w.heap.size, 0, none⟩ = some (.int .i64 1) := C9.out.at_ rfl
       have c1n : w9.cell? ⟨w.heap.size, 1, none⟩ = some (.int .i64 v) := C9.out.at_ rfl
       have c2n : w9.cell? ⟨w.heap.size, 2, none⟩ = some (.int .i64 o) := C9.out.at_ rfl
       have c3n : w9.cell? ⟨w.heap.size, 3, none⟩ = some (.slice A n cap) := C9.out.at_ rfl
       clear h9 g9 c0)
    | (refine wpList_storeC (off := 3) (p := [.slice A n cap]) szB rfl (.tmp 83) (.tmp 82) rfl (.slice A n cap) rfl (fun u hu => by rw [List.mem_singleton.1 hu]; rfl) D9.out rfl (by simp) (by first | rfl | go_simp) (by first | rfl | go_simp) ?_
       intro w10 h10 g10
       have N10 := Lib.hid (grown_row N9.out g10 (fun z hz => by injection hz with hz; omega))
       have D10 := Lib.hid (show CB w10 w8.heap.size 24 [.int .i64 1, .int .i64 0, .int .i64 0, .slice A n cap] from h10)
       have C10 := Lib.hid (C8.out.kept N10.out)
       have c0t : w10.cell? ⟨w.heap.size, 0, none⟩ = some (.int .i64 1) := C10.out.at_ rfl
       have c1t : w10.cell? ⟨w.heap.size, 1, none⟩ = some (.int .i64 v) := C10.out.at_ rfl
       have c2t : w10.cell? ⟨w.heap.size, 2, none⟩ = some (.int .i64 o) := C10.out.at_ rfl
       have c3t : w10.cell? ⟨w.heap.size, 3, none⟩ = some (.slice A n cap) := C10.out.at_ rfl
       clear h10 g10 c0n c1n c2n c3n))
  go_ret
  exact ⟨rfl, below_of_none (grown_trans' N8.out N10.out)⟩
set_option maxRecDepth 20000 in
set_option maxHeartbeats 8000000 in
theorem tw_1 (w : World) (v o : Int) (d : List UInt8) (A : Option Addr) (n cap : Nat) (hn : d.length = n) (hr : RB w w.heap.size A d cap) (hl : ¬ 4000 < n) (hz : d ≠ []) (he : wrE ⟨1, v, o, d⟩ = 0) :
    Calls Try.prog 3 #[.agg #[.int .i64 1, .int .i64 v, .int .i64 o, .slice A n cap]] w fun e w' => e = .returned (.bool true) ∧ Below w.heap.size w w' := by
  have hn0 : n ≠ 0 := by rw [← hn]; intro e; exact hz (List.eq_nil_of_length_eq_zero e)
  have hzz : ((n : Int) == 0) = false := by rw [beq_eq_false_iff_ne]; omega
  have HR := Lib.hid hr
  have HN := Lib.hid hn
  have HNL := Lib.hid hl
  have hni : ¬ (4000 : Int) < (n : Int) := by omega
  obtain ⟨en, hen⟩ : ∃ x, wrE ⟨1, v, o, d⟩ = x := ⟨_, rfl⟩
  obtain ⟨bs, hbs⟩ : ∃ x, wrF ⟨1, v, o, d⟩ = x := ⟨_, rfl⟩
  obtain ⟨bn, hbn⟩ : ∃ x, bs.length = x := ⟨_, rfl⟩
  have HEN := Lib.hid hen
  have HBS := Lib.hid hbs
  have HBN := Lib.hid hbn
  have HBL := Lib.hid (show bs.length ≤ 6005 by rw [← hbs]; exact wrF_small he)
  have HFD := Lib.hid (show feedT ts0 bs = [⟨1, 0, 0, d⟩] by have h := wr_back he; rw [← hbs]; unfold feedT; rw [run_end, h.2, if_neg (by simp [ts0]), h.1]; rw [if_pos rfl, putF_ones, if_neg hz])
  have HED := Lib.hid (show (endT ts0 bs).err = 0 by have h := wr_back he; rw [← hbs, h.2]; rfl)
  rw [he] at hen
  subst hen
  clear hn hr hl hbs hbn he hz hn0
  go_enter Try.func3, Try.ntmps3
  go_wp2_with (first
    | (go_at_call 8
       refine (speaks_any _).mono ?_
       rintro e w1 ⟨rfl, g1⟩
       have C1 := Lib.hid ((CB.new w 24 [.int .i64 1, .int .i64 v, .int .i64 o, .slice A n cap]).kept g1)
       have G1 := Lib.hid (grown_trans' (grown_alloc w (.cells #[.int .i64 1, .int .i64 v, .int .i64 o, .slice A n cap] 24) none) g1)
       have c3 : w1.cell? ⟨w.heap.size, 3, none⟩ = some (.slice A n cap) := C1.out.at_ rfl
       have c3a := fun x => cell_alloc c3 x
       clear g1)
    | (at_builtin
       refine wpList_appB byteT rfl (.tmp 19) (.tmp 21) rfl (OwnB.new0 w1 w.heap.size 5 G1.out.size) ((HR.out.below (below_of_none G1.out)).alloc (G1.out.size) _) (by first | rfl | go_simp) (by rw [HN.out]; first | rfl | go_simp) (by rw [HN.out]; have := HNL.out; simp; omega) (by rw [World.size_alloc]; have := G1.out.size; omega) ?_
       intro v2 w2 o2 g2 _ a2
       rw [List.nil_append] at o2
       obtain ⟨A2, cp2, hv2, r2, -⟩ := o2.shape
       rw [HN.out] at hv2
       subst hv2
       have N2 := Lib.hid (grown_row (grown_alloc w1 (.cells #[] 5) none) g2 (fun z hz => by simp [Value.ownBlock] at hz; omega))
       have O2 := Lib.hid o2
       have G2 := Lib.hid (grown_trans' G1.out N2.out)
       have C2 := Lib.hid (C1.out.kept N2.out)
       clear o2 g2 a2 r2 c3 c3a)
    | (refine wpList_loadC (off := 0) (p := [.int .i64 1, .int .i64 v, .int .i64 o, .slice A n cap]) aggT4 rfl (.tmp 1) rfl C2.out rfl (by simp) (by first | rfl | go_simp) ?_)
    | (refine wpList_storeC (off := 0) (p := [.int .i64 1, .int .i64 v, .int .i64 o, .slice A n cap]) szT rfl (.tmp 4) (.tmp 23) rfl (.agg #[.int .i64 1, .int .i64 v, .int .i64 o, .slice A n cap]) rfl (fun u hu => by simp at hu; rcases hu with rfl | rfl | rfl | rfl <;> rfl) (CB.new w2 24 [.int .i64 0, .int .i64 0, .int .i64 0, .slice none 0 0]) rfl (by simp) (by first | rfl | go_simp) (by first | rfl | go_simp) ?_
       intro w3 h3 g3
       have N3 := Lib.hid (grown_row (grown_alloc w2 (.cells #[.int .i64 0, .int .i64 0, .int .i64 0, .slice none 0 0] 24) none) g3 (fun z hz => by injection hz with hz; omega))
       have D3 := Lib.hid (show CB w3 w2.heap.size 24 [.int .i64 1, .int .i64 v, .int .i64 o, .slice A n cap] from h3)
       clear h3 g3)
    | (refine wpList_storeC (off := 3) (p := [.slice A2 n cp2]) szB rfl (.tmp 25) (.tmp 24) rfl (.slice A2 n cp2) rfl (fun u hu => by rw [List.mem_singleton.1 hu]; rfl) D3.out rfl (by simp) (by first | rfl | go_simp) (by first | rfl | go_simp) ?_
       intro w4 h4 g4
       have N4 := Lib.hid (grown_row N3.out g4 (fun z hz => by injection hz with hz; omega))
       have D4 := Lib.hid (show CB w4 w2.heap.size 24 [.int .i64 1, .int .i64 v, .int .i64 o, .slice A2 n cp2] from h4)
       have C4 := Lib.hid (C2.out.kept N4.out)
       have G4 := Lib.hid (grown_trans' G2.out N4.out)
       have O4 := Lib.hid (OwnB.none_ O2.out N4.out)
       clear h4 g4)
    | (refine wpList_loadC (off := 0) (p := [.int .i64 1, .int .i64 v, .int .i64 o, .slice A2 n cp2]) aggT4 rfl (.tmp 4) rfl D4.out rfl (by simp) (by first | rfl | go_simp) ?_)
    | (go_at_call 9
       obtain ⟨A2', cp2', e2, r4, -⟩ := O4.out.shape
       rw [HN.out] at e2
       injection e2 with e2 _ e3
       subst e2 e3
       refine (write_any w4 ⟨1, v, o, d⟩ A2 n cp2 HN.out r4 (by have := HNL.out; omega)).mono ?_
       rintro e w5 ⟨v5, rfl, o5, g5⟩
       rw [HBS.out] at o5
       obtain ⟨A5, c5, e5, r5, -⟩ := o5.shape
       rw [HBN.out] at e5
       subst e5
       have O5 := Lib.hid o5
       have G5 := Lib.hid (grown_trans' G4.out g5)
       have C5 := Lib.hid (C4.out.kept g5)
       have O45 := Lib.hid (OwnB.none_ O4.out g5)
       rw [HEN.out]
       clear o5 g5 r4 r5)
    | (refine wpList_loadC (off := 0) (p := [.int .i64 1, .int .i64 v, .int .i64 o, .slice A n cap]) aggT4 rfl (.tmp 1) rfl C5.out rfl (by simp) (by first | rfl | go_simp) ?_)
    | (go_at_call 10
       refine (refWrite_any w5 ⟨1, v, o, d⟩ A n cap HN.out ((HR.out.below (below_of_none G5.out)).more G5.out.size) (by have := HNL.out; omega)).mono ?_
       rintro e w6 ⟨v6, rfl, o6, g6⟩
       rw [HBS.out] at o6
       obtain ⟨A6, c6, e6, r6, -⟩ := o6.shape
       rw [HBN.out] at e6
       subst e6
       rw [HEN.out]
       have G6 := Lib.hid (grown_trans' G5.out g6)
       have C6 := Lib.hid (C5.out.kept g6)
       have O56 := Lib.hid (OwnB.none_ O5.out g6)
       have o46 := OwnB.none_ O45.out g6
       obtain ⟨A7, c7, e7, r7, -⟩ := o46.shape
       rw [HN.out] at e7
       injection e7 with e7 _ e8
       subst e7 e8
       obtain ⟨A8, c8, e9, r8, -⟩ := O56.out.shape
       rw [HBN.out] at e9
       injection e9 with e9 _ e10
       subst e9 e10
       have q1 : (convert 22 9 (.slice A5 bn c5)).run Try.prog w6 = .ok (.string ⟨bs.toArray⟩) w6 := by have := run_strB (P := Try.prog) byteT strTy r8; rw [HBN.out] at this; exact this
       have q2 : (convert 22 9 (.slice A6 bn c6)).run Try.prog w6 = .ok (.string ⟨bs.toArray⟩) w6 := by have := run_strB (P := Try.prog) byteT strTy r6; rw [HBN.out] at this; exact this
       have q3 : (convert 22 9 (.slice A2 n cp2)).run Try.prog w6 = .ok (.string ⟨d.toArray⟩) w6 := by have := run_strB (P := Try.prog) byteT strTy r7; rw [HN.out] at this; exact this
       have q4 : (convert 22 9 (.slice A n cap)).run Try.prog w6 = .ok (.string ⟨d.toArray⟩) w6 := by have := run_strB (P := Try.prog) byteT strTy (HR.out.below (below_of_none G6.out)); rw [HN.out] at this; exact this
       have c3 : w6.cell? ⟨w.heap.size, 3, none⟩ = some (.slice A n cap) := C6.out.at_ rfl
       clear o6 g6 r6 o46 r7 r8)
    | (go_at_call 11
       refine (newReader_any _).mono ?_
       rintro e w7 ⟨rfl, r7, g7⟩
       have R7 := Lib.hid r7
       have G7 := Lib.hid (grown_trans' G6.out g7)
       have C7 := Lib.hid (C6.out.kept g7)
       have O7 := Lib.hid (OwnB.none_ O56.out g7)
       clear r7 g7 q1 q2 q3 q4 c3)
    | (go_at_call 12
       obtain ⟨A8, c8, e8, r8, -⟩ := O7.out.shape
       rw [HBN.out] at e8
       injection e8 with e8 _ e9
       subst e8 e9
       refine (feed_any R7.out ok_ts0 (Nat.le_of_lt R7.out.lt.2) A5 bs bn c5 HBN.out r8 (fun a ha hl => ⟨fun e => by have h1 := O56.out.blk a ha hl; have h2 := R7.out.1; omega, fun e => by simp [Value.ownBlock] at e⟩) (by have := HBL.out; have := HBN.out; omega)).mono ?_
       rintro e w8 ⟨pv8, vf, vs8, rfl, -, o8, m8, -, -⟩
       rw [HFD.out] at o8
       rw [HED.out]
       obtain ⟨Af, cf, rfl, -, -⟩ := o8.shape
       have N8 := Lib.hid (none_feed G7.out R7.out G6.out.size m8)
       have C8 := Lib.hid (C7.out.mod m8 (fun e => by rcases e with e | e; have h2 := C6.out.lt; omega; simp [Value.ownBlock] at e))
       have O8 := Lib.hid o8
       have c0 : w8.cell? ⟨w.heap.size, 0, none⟩ = some (.int .i64 1) := C8.out.at_ rfl
       clear o8 m8 r8)
    | (refine wpList_storeC (off := 0) (p := [.int .i64 1, .int .i64 0, .int .i64 0, .slice none 0 0]) szT rfl (.tmp 12) (.tmp 71) rfl (.agg #[.int .i64 1, .int .i64 0, .int .i64 0, .slice none 0 0]) rfl (fun u hu => by simp at hu; rcases hu with rfl | rfl | rfl | rfl <;> rfl) (CB.new w8 24 [.int .i64 0, .int .i64 0, .int .i64 0, .slice none 0 0]) rfl (by simp) (by first | rfl | go_simp) (by first | rfl | go_simp) ?_
       intro w9 h9 g9
       have N9 := Lib.hid (grown_row (grown_alloc w8 (.cells #[.int .i64 0, .int .i64 0, .int .i64 0, .slice none 0 0] 24) none) g9 (fun z hz => by injection hz with hz; omega))
       have D9 := Lib.hid (show CB w9 w8.heap.size 24 [.int .i64 1, .int .i64 0, .int .i64 0, .slice none 0 0] from h9)
       have C9 := Lib.hid (C8.out.kept N9.out)
       have c0n : w9.cell? ⟨w.heap.size, 0, none⟩ = some (.int .i64 1) := C9.out.at_ rfl
       have c1n : w9.cell? ⟨w.heap.size, 1, none⟩ = some (.int .i64 v) := C9.out.at_ rfl
       have c2n : w9.cell? ⟨w.heap.size, 2, none⟩ = some (.int .i64 o) := C9.out.at_ rfl
       have c3n : w9.cell? ⟨w.heap.size, 3, none⟩ = some (.slice A n cap) := C9.out.at_ rfl
       clear h9 g9 c0)
    | (refine wpList_storeC (off := 3) (p := [.slice A n cap]) szB rfl (.tmp 83) (.tmp 82) rfl (.slice A n cap) rfl (fun u hu => by rw [List.mem_singleton.1 hu]; rfl) D9.out rfl (by simp) (by first | rfl | go_simp) (by first | rfl | go_simp) ?_
       intro w10 h10 g10
       have N10 := Lib.hid (grown_row N9.out g10 (fun z hz => by injection hz with hz; omega))
       have D10 := Lib.hid (show CB w10 w8.heap.size 24 [.int .i64 1, .int .i64 0, .int .i64 0, .slice A n cap] from h10)
       have C10 := Lib.hid (C8.out.kept N10.out)
       have c0t : w10.cell? ⟨w.heap.size, 0, none⟩ = some (.int .i64 1) := C10.out.at_ rfl
       have c1t : w10.cell? ⟨w.heap.size, 1, none⟩ = some (.int .i64 v) := C10.out.at_ rfl
       have c2t : w10.cell? ⟨w.heap.size, 2, none⟩ = some (.int .i64 o) := C10.out.at_ rfl
       have c3t : w10.cell? ⟨w.heap.size, 3, none⟩ = some (.slice A n cap) := C10.out.at_ rfl
       clear h10 g10 c0n c1n c2n c3n)
    | (refine wpList_loadCg (off := 0) (p := [.int .i64 1, .int .i64 0, .int .i64 0, .slice A n cap]) aggT4 (by first | rfl | go_simp) (.tmp 12) rfl D10.out rfl (by simp) (by first | rfl | go_simp) ?_)
    | (go_at_call 13
       have p12 := ((O8.out.none_ (N10.out)).none_ (grown_alloc w10 (.cells #[.int .i64 1, .int .i64 0, .int .i64 0, .slice A n cap] 24) none))
       obtain ⟨A12, c12, e12, f12, -⟩ := p12.shape
       injection e12 with e12 _ e13
       subst e12 e13
       refine (same_any _ Af _ [⟨1, 0, 0, d⟩] 1 cf 1 _ rfl f12 (RP.new1 w10 _ ⟨1, 0, 0, d⟩ _ _ _ (by first | rfl | exact HN.out.symm) ((HR.out.below (below_of_none (grown_trans' N8.out N10.out))).more (grown_trans' N8.out N10.out).size)) (Nat.le_refl _)).mono ?_
       rintro e w12 ⟨rfl, g12⟩
       have G12 := Lib.hid (grown_trans' (grown_trans' (grown_trans' N8.out N10.out) (grown_alloc w10 _ none)) g12)
       clear g12 p12 f12))
  go_ret
  exact ⟨rfl, below_of_none G12.out⟩
set_option maxRecDepth 20000 in
set_option maxHeartbeats 8000000 in
theorem tw_2 (w : World) (v o : Int) (d : List UInt8) (A : Option Addr) (n cap : Nat) (hn : d.length = n) (hr : RB w w.heap.size A d cap) (hl : ¬ 4000 < n) (he : wrE ⟨2, v, o, d⟩ = 0) :
    Calls Try.prog 3 #[.agg #[.int .i64 2, .int .i64 v, .int .i64 o, .slice A n cap]] w fun e w' => e = .returned (.bool true) ∧ Below w.heap.size w w' := by
  have HR := Lib.hid hr
  have HN := Lib.hid hn
  have HNL := Lib.hid hl
  have hni : ¬ (4000 : Int) < (n : Int) := by omega
  obtain ⟨en, hen⟩ : ∃ x, wrE ⟨2, v, o, d⟩ = x := ⟨_, rfl⟩
  obtain ⟨bs, hbs⟩ : ∃ x, wrF ⟨2, v, o, d⟩ = x := ⟨_, rfl⟩
  obtain ⟨bn, hbn⟩ : ∃ x, bs.length = x := ⟨_, rfl⟩
  have HEN := Lib.hid hen
  have HBS := Lib.hid hbs
  have HBN := Lib.hid hbn
  have HBL := Lib.hid (show bs.length ≤ 6005 by rw [← hbs]; exact wrF_small he)
  have HFD := Lib.hid (show feedT ts0 bs = [⟨2, v, o, []⟩] by have h := wr_back he; rw [← hbs]; unfold feedT; rw [run_end, h.2, if_neg (by simp [ts0]), h.1]; rfl)
  have HED := Lib.hid (show (endT ts0 bs).err = 0 by have h := wr_back he; rw [← hbs, h.2]; rfl)
  rw [he] at hen
  subst hen
  clear hn hr hl hbs hbn he
  go_enter Try.func3, Try.ntmps3
  go_wp2_with (first
    | (go_at_call 8
       refine (speaks_any _).mono ?_
       rintro e w1 ⟨rfl, g1⟩
       have C1 := Lib.hid ((CB.new w 24 [.int .i64 2, .int .i64 v, .int .i64 o, .slice A n cap]).kept g1)
       have G1 := Lib.hid (grown_trans' (grown_alloc w (.cells #[.int .i64 2, .int .i64 v, .int .i64 o, .slice A n cap] 24) none) g1)
       have c3 : w1.cell? ⟨w.heap.size, 3, none⟩ = some (.slice A n cap) := C1.out.at_ rfl
       have c3a := fun x => cell_alloc c3 x
       clear g1)
    | (at_builtin
       refine wpList_appB byteT rfl (.tmp 19) (.tmp 21) rfl (OwnB.new0 w1 w.heap.size 5 G1.out.size) ((HR.out.below (below_of_none G1.out)).alloc (G1.out.size) _) (by first | rfl | go_simp) (by rw [HN.out]; first | rfl | go_simp) (by rw [HN.out]; have := HNL.out; simp; omega) (by rw [World.size_alloc]; have := G1.out.size; omega) ?_
       intro v2 w2 o2 g2 _ a2
       rw [List.nil_append] at o2
       obtain ⟨A2, cp2, hv2, r2, -⟩ := o2.shape
       rw [HN.out] at hv2
       subst hv2
       have N2 := Lib.hid (grown_row (grown_alloc w1 (.cells #[] 5) none) g2 (fun z hz => by simp [Value.ownBlock] at hz; omega))
       have O2 := Lib.hid o2
       have G2 := Lib.hid (grown_trans' G1.out N2.out)
       have C2 := Lib.hid (C1.out.kept N2.out)
       clear o2 g2 a2 r2 c3 c3a)
    | (refine wpList_loadC (off := 0) (p := [.int .i64 2, .int .i64 v, .int .i64 o, .slice A n cap]) aggT4 rfl (.tmp 1) rfl C2.out rfl (by simp) (by first | rfl | go_simp) ?_)
    | (refine wpList_storeC (off := 0) (p := [.int .i64 2, .int .i64 v, .int .i64 o, .slice A n cap]) szT rfl (.tmp 4) (.tmp 23) rfl (.agg #[.int .i64 2, .int .i64 v, .int .i64 o, .slice A n cap]) rfl (fun u hu => by simp at hu; rcases hu with rfl | rfl | rfl | rfl <;> rfl) (CB.new w2 24 [.int .i64 0, .int .i64 0, .int .i64 0, .slice none 0 0]) rfl (by simp) (by first | rfl | go_simp) (by first | rfl | go_simp) ?_
       intro w3 h3 g3
       have N3 := Lib.hid (grown_row (grown_alloc w2 (.cells #[.int .i64 0, .int .i64 0, .int .i64 0, .slice none 0 0] 24) none) g3 (fun z hz => by injection hz with hz; omega))
       have D3 := Lib.hid (show CB w3 w2.heap.size 24 [.int .i64 2, .int .i64 v, .int .i64 o, .slice A n cap] from h3)
       clear h3 g3)
    | (refine wpList_storeC (off := 3) (p := [.slice A2 n cp2]) szB rfl (.tmp 25) (.tmp 24) rfl (.slice A2 n cp2) rfl (fun u hu => by rw [List.mem_singleton.1 hu]; rfl) D3.out rfl (by simp) (by first | rfl | go_simp) (by first | rfl | go_simp) ?_
       intro w4 h4 g4
       have N4 := Lib.hid (grown_row N3.out g4 (fun z hz => by injection hz with hz; omega))
       have D4 := Lib.hid (show CB w4 w2.heap.size 24 [.int .i64 2, .int .i64 v, .int .i64 o, .slice A2 n cp2] from h4)
       have C4 := Lib.hid (C2.out.kept N4.out)
       have G4 := Lib.hid (grown_trans' G2.out N4.out)
       have O4 := Lib.hid (OwnB.none_ O2.out N4.out)
       clear h4 g4)
    | (refine wpList_loadC (off := 0) (p := [.int .i64 2, .int .i64 v, .int .i64 o, .slice A2 n cp2]) aggT4 rfl (.tmp 4) rfl D4.out rfl (by simp) (by first | rfl | go_simp) ?_)
    | (go_at_call 9
       obtain ⟨A2', cp2', e2, r4, -⟩ := O4.out.shape
       rw [HN.out] at e2
       injection e2 with e2 _ e3
       subst e2 e3
       refine (write_any w4 ⟨2, v, o, d⟩ A2 n cp2 HN.out r4 (by have := HNL.out; omega)).mono ?_
       rintro e w5 ⟨v5, rfl, o5, g5⟩
       rw [HBS.out] at o5
       obtain ⟨A5, c5, e5, r5, -⟩ := o5.shape
       rw [HBN.out] at e5
       subst e5
       have O5 := Lib.hid o5
       have G5 := Lib.hid (grown_trans' G4.out g5)
       have C5 := Lib.hid (C4.out.kept g5)
       have O45 := Lib.hid (OwnB.none_ O4.out g5)
       rw [HEN.out]
       clear o5 g5 r4 r5)
    | (refine wpList_loadC (off := 0) (p := [.int .i64 2, .int .i64 v, .int .i64 o, .slice A n cap]) aggT4 rfl (.tmp 1) rfl C5.out rfl (by simp) (by first | rfl | go_simp) ?_)
    | (go_at_call 10
       refine (refWrite_any w5 ⟨2, v, o, d⟩ A n cap HN.out ((HR.out.below (below_of_none G5.out)).more G5.out.size) (by have := HNL.out; omega)).mono ?_
       rintro e w6 ⟨v6, rfl, o6, g6⟩
       rw [HBS.out] at o6
       obtain ⟨A6, c6, e6, r6, -⟩ := o6.shape
       rw [HBN.out] at e6
       subst e6
       rw [HEN.out]
       have G6 := Lib.hid (grown_trans' G5.out g6)
       have C6 := Lib.hid (C5.out.kept g6)
       have O56 := Lib.hid (OwnB.none_ O5.out g6)
       have o46 := OwnB.none_ O45.out g6
       obtain ⟨A7, c7, e7, r7, -⟩ := o46.shape
       rw [HN.out] at e7
       injection e7 with e7 _ e8
       subst e7 e8
       obtain ⟨A8, c8, e9, r8, -⟩ := O56.out.shape
       rw [HBN.out] at e9
       injection e9 with e9 _ e10
       subst e9 e10
       have q1 : (convert 22 9 (.slice A5 bn c5)).run Try.prog w6 = .ok (.string ⟨bs.toArray⟩) w6 := by have := run_strB (P := Try.prog) byteT strTy r8; rw [HBN.out] at this; exact this
       have q2 : (convert 22 9 (.slice A6 bn c6)).run Try.prog w6 = .ok (.string ⟨bs.toArray⟩) w6 := by have := run_strB (P := Try.prog) byteT strTy r6; rw [HBN.out] at this; exact this
       have q3 : (convert 22 9 (.slice A2 n cp2)).run Try.prog w6 = .ok (.string ⟨d.toArray⟩) w6 := by have := run_strB (P := Try.prog) byteT strTy r7; rw [HN.out] at this; exact this
       have q4 : (convert 22 9 (.slice A n cap)).run Try.prog w6 = .ok (.string ⟨d.toArray⟩) w6 := by have := run_strB (P := Try.prog) byteT strTy (HR.out.below (below_of_none G6.out)); rw [HN.out] at this; exact this
       have c3 : w6.cell? ⟨w.heap.size, 3, none⟩ = some (.slice A n cap) := C6.out.at_ rfl
       clear o6 g6 r6 o46 r7 r8)
    | (go_at_call 11
       refine (newReader_any _).mono ?_
       rintro e w7 ⟨rfl, r7, g7⟩
       have R7 := Lib.hid r7
       have G7 := Lib.hid (grown_trans' G6.out g7)
       have C7 := Lib.hid (C6.out.kept g7)
       have O7 := Lib.hid (OwnB.none_ O56.out g7)
       clear r7 g7 q1 q2 q3 q4 c3)
    | (go_at_call 12
       obtain ⟨A8, c8, e8, r8, -⟩ := O7.out.shape
       rw [HBN.out] at e8
       injection e8 with e8 _ e9
       subst e8 e9
       refine (feed_any R7.out ok_ts0 (Nat.le_of_lt R7.out.lt.2) A5 bs bn c5 HBN.out r8 (fun a ha hl => ⟨fun e => by have h1 := O56.out.blk a ha hl; have h2 := R7.out.1; omega, fun e => by simp [Value.ownBlock] at e⟩) (by have := HBL.out; have := HBN.out; omega)).mono ?_
       rintro e w8 ⟨pv8, vf, vs8, rfl, -, o8, m8, -, -⟩
       rw [HFD.out] at o8
       rw [HED.out]
       obtain ⟨Af, cf, rfl, -, -⟩ := o8.shape
       have N8 := Lib.hid (none_feed G7.out R7.out G6.out.size m8)
       have C8 := Lib.hid (C7.out.mod m8 (fun e => by rcases e with e | e; have h2 := C6.out.lt; omega; simp [Value.ownBlock] at e))
       have O8 := Lib.hid o8
       have c0 : w8.cell? ⟨w.heap.size, 0, none⟩ = some (.int .i64 2) := C8.out.at_ rfl
       clear o8 m8 r8)
    | (refine wpList_storeC (off := 0) (p := [.int .i64 2, .int .i64 0, .int .i64 0, .slice none 0 0]) szT rfl (.tmp 12) (.tmp 71) rfl (.agg #[.int .i64 2, .int .i64 0, .int .i64 0, .slice none 0 0]) rfl (fun u hu => by simp at hu; rcases hu with rfl | rfl | rfl | rfl <;> rfl) (CB.new w8 24 [.int .i64 0, .int .i64 0, .int .i64 0, .slice none 0 0]) rfl (by simp) (by first | rfl | go_simp) (by first | rfl | go_simp) ?_
       intro w9 h9 g9
       have N9 := Lib.hid (grown_row (grown_alloc w8 (.cells #[.int .i64 0, .int .i64 0, .int .i64 0, .slice none 0 0] 24) none) g9 (fun z hz => by injection hz with hz; omega))
       have D9 := Lib.hid (show CB w9 w8.heap.size 24 [.int .i64 2, .int .i64 0, .int .i64 0, .slice none 0 0] from h9)
       have C9 := Lib.hid (C8.out.kept N9.out)
       have c0n : w9.cell? ⟨w.heap.size, 0, none⟩ = some (.int .i64 2) := C9.out.at_ rfl
       have c1n : w9.cell? ⟨w.heap.size, 1, none⟩ = some (.int .i64 v) := C9.out.at_ rfl
       have c2n : w9.cell? ⟨w.heap.size, 2, none⟩ = some (.int .i64 o) := C9.out.at_ rfl
       have c3n : w9.cell? ⟨w.heap.size, 3, none⟩ = some (.slice A n cap) := C9.out.at_ rfl
       clear h9 g9 c0))
  obtain ⟨wd, hwd⟩ : ∃ x, w9.drew = x := ⟨_, rfl⟩
  have D9d := Lib.hid (show CB wd w8.heap.size 24 [.int .i64 2, .int .i64 0, .int .i64 0, .slice none 0 0] from by rw [← hwd]; exact D9.out)
  have N9d := Lib.hid (show w8.grownBy wd none by rw [← hwd]; exact grown_drew N9.out)
  have C9d := Lib.hid (C8.out.kept N9d.out)
  clear c0n c1n c2n c3n
  refine helds_begin (fun x => x.cell? ⟨w.heap.size, 1, none⟩ = some (.int .i64 v) ∧ x.cell? ⟨w.heap.size, 2, none⟩ = some (.int .i64 o)) (by kernel_rfl) ⟨by rw [hwd]; exact C9d.out.at_ rfl, by rw [hwd]; exact C9d.out.at_ rfl⟩ (fun hSd => ?_)
  try rw [hwd]
  try rw [hwd] at hSd
  refine helds_take (i := 0) (d := some 75) (v := ?vw2_1) (by assumption) rfl rfl (by kernel_rfl) (fun _ _ _ h => h) ?yw2_1 ?_; case yw2_1 => (refine Or.inl ⟨rfl, fun wx hS => ?_⟩; go_simp; try with_reducible rfl)
  try simp only [Act.put, List.setIfInBounds_toArray, List.set_cons_zero, List.set_cons_succ]
  refine helds_take (i := 1) (d := some 76) (v := _) (by assumption) rfl rfl (by kernel_rfl) (fun _ _ _ h => h) (yields_cellX aggI (.tmp 75) rfl rfl (fun wx hx => hx.1) (by first | rfl | go_simp)) ?_
  try simp only [Act.put, List.setIfInBounds_toArray, List.set_cons_zero, List.set_cons_succ]
  refine helds_take (i := 2) (d := some 77) (v := ?vw2_3) (by assumption) rfl rfl (by kernel_rfl) (fun _ _ _ h => h) ?yw2_3 ?_; case yw2_3 => (refine Or.inl ⟨rfl, fun wx hS => ?_⟩; go_simp; try with_reducible rfl)
  try simp only [Act.put, List.setIfInBounds_toArray, List.set_cons_zero, List.set_cons_succ]
  refine helds_take (i := 3) (d := some 78) (v := _) (by assumption) rfl rfl (by kernel_rfl) (fun _ _ _ h => h) (yields_cellX aggI (.tmp 77) rfl rfl (fun wx hx => hx.2) (by first | rfl | go_simp)) ?_
  try simp only [Act.put, List.setIfInBounds_toArray, List.set_cons_zero, List.set_cons_succ]
  refine helds_take (i := 4) (d := some 79) (v := ?vw2_5) (by assumption) rfl rfl (by kernel_rfl) (fun _ _ _ h => h) ?yw2_5 ?_; case yw2_5 => (refine Or.inl ⟨rfl, fun wx hS => ?_⟩; go_simp; try with_reducible rfl)
  try simp only [Act.put, List.setIfInBounds_toArray, List.set_cons_zero, List.set_cons_succ]
  refine helds_one (i := 5) rfl (by kernel_rfl) rfl (fun K hK => ?_)
  refine wp_storeC (d := none) (off := 1) (p := [.int .i64 v]) szI rfl (.tmp 79) (.tmp 76) rfl (.int .i64 v) rfl (fun u hu => by rw [List.mem_singleton.1 hu]; rfl) D9d.out rfl (by simp) rfl rfl ?_
  intro w20 h20 g20
  have N20 := Lib.hid (grown_row N9d.out g20 (fun z hz => by injection hz with hz; omega))
  have D20 := Lib.hid (show CB w20 w8.heap.size 24 [.int .i64 2, .int .i64 v, .int .i64 0, .slice none 0 0] from h20)
  have C20 := Lib.hid (C8.out.kept N20.out)
  have hS20 : w20.cell? ⟨w.heap.size, 1, none⟩ = some (.int .i64 v) ∧ w20.cell? ⟨w.heap.size, 2, none⟩ = some (.int .i64 o) := ⟨C20.out.at_ rfl, C20.out.at_ rfl⟩
  clear h20 g20
  refine hK.out _ _ (by assumption) (fun _ => ?_)
  clear hK K
  try simp only [Act.put]
  refine helds_take (i := 6) (d := some 80) (v := ?vw2_6) (by assumption) rfl rfl (by kernel_rfl) (fun _ _ _ h => h) ?yw2_6 ?_; case yw2_6 => (refine Or.inl ⟨rfl, fun wx hS => ?_⟩; go_simp; try with_reducible rfl)
  try simp only [Act.put, List.setIfInBounds_toArray, List.set_cons_zero, List.set_cons_succ]
  refine helds_one (i := 7) rfl (by kernel_rfl) rfl (fun K hK => ?_)
  refine wp_storeC (d := none) (off := 2) (p := [.int .i64 o]) szI rfl (.tmp 80) (.tmp 78) rfl (.int .i64 o) rfl (fun u hu => by rw [List.mem_singleton.1 hu]; rfl) D20.out rfl (by simp) rfl rfl ?_
  intro w21 h21 g21
  have N21 := Lib.hid (grown_row N20.out g21 (fun z hz => by injection hz with hz; omega))
  have D21 := Lib.hid (show CB w21 w8.heap.size 24 [.int .i64 2, .int .i64 v, .int .i64 o, .slice none 0 0] from h21)
  have C21 := Lib.hid (C8.out.kept N21.out)
  have hS21 : w21.cell? ⟨w.heap.size, 1, none⟩ = some (.int .i64 v) ∧ w21.cell? ⟨w.heap.size, 2, none⟩ = some (.int .i64 o) := ⟨C21.out.at_ rfl, C21.out.at_ rfl⟩
  clear h21 g21
  refine hK.out _ _ (by assumption) (fun _ => ?_)
  clear hK K
  try simp only [Act.put]
  refine held_end (by kernel_rfl) ?_ _
  clear hS20 hS21
  have c0e : w21.cell? ⟨w.heap.size, 0, none⟩ = some (.int .i64 2) := C21.out.at_ rfl
  go_wp2_with (first
    | (refine wpList_loadCg (off := 0) (p := [.int .i64 2, .int .i64 v, .int .i64 o, .slice none 0 0]) aggT4 (by first | rfl | go_simp) (.tmp 12) rfl D21.out rfl (by simp) (by first | rfl | go_simp) ?_)
    | (go_at_call 13
       have p12 := ((O8.out.none_ (N21.out)).none_ (grown_alloc w21 (.cells #[.int .i64 2, .int .i64 v, .int .i64 o, .slice none 0 0] 24) none))
       obtain ⟨A12, c12, e12, f12, -⟩ := p12.shape
       injection e12 with e12 _ e13
       subst e12 e13
       refine (same_any _ Af _ [⟨2, v, o, []⟩] 1 cf 1 _ rfl f12 (RP.new1 w21 _ ⟨2, v, o, []⟩ _ _ _ (by first | rfl | exact HN.out.symm) (RB.nil_ _ _)) (Nat.le_refl _)).mono ?_
       rintro e w12 ⟨rfl, g12⟩
       have G12 := Lib.hid (grown_trans' (grown_trans' (grown_trans' N8.out N21.out) (grown_alloc w21 _ none)) g12)
       clear g12 p12 f12))
  go_ret
  exact ⟨rfl, below_of_none G12.out⟩
theorem walk_TeloptWrites (w : World) (t : Tl) (_ : I64 t.kind ∧ I64 t.verb ∧ I64 t.opt) (A : Option Addr) (cap : Nat) (hr : RB w w.heap.size A t.data cap) :
    Calls Try.prog 3 #[.agg #[.int .i64 t.kind, .int .i64 t.verb, .int .i64 t.opt, .slice A t.data.length cap]] w fun e w' => e = .returned (.bool true) ∧ Below w.heap.size w w' := by
  by_cases hl : 4000 < t.data.length
  · exact tw_long w _ _ _ _ _ _ _ rfl hr hl
  by_cases he : wrE t = 0
  · obtain ⟨hk, -⟩ := wrE_ok he
    obtain ⟨k, v, o, d⟩ := t
    rcases hk with rfl | ⟨rfl, -, -⟩ | ⟨rfl, -⟩
    · by_cases hz : d = []
      · exact tw_1z w v o d A _ cap rfl hr hl hz he
      · exact tw_1 w v o d A _ cap rfl hr hl hz he
    · exact tw_2 w v o d A _ cap rfl hr hl he
    · exact tw_3 w v o d A _ cap rfl hr hl he
  · obtain ⟨k, v, o, d⟩ := t
    exact tw_no w k v o d A _ cap rfl hr hl he
end Go.Proofs.Ytcfhpoigfkljpaa
