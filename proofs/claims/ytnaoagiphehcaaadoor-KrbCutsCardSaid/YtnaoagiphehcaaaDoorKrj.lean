/- Messages as they come in; the walk of KrbApart. -/
import Derived.Test.YtnaoagiphehcaaaDoorKrh
import Derived.Test.YtnaoagiphehcaaaDoorTkg
import Derived.ChangeOld
namespace Go.Proofs.YtnaoagiphehcaaaDoor
open Go.RowKit Go.ChangeShapes Go.WideShapes

theorem bytes_of_trod {H : Type} {enc : TypeId × Value → H} {w : World} {base : Nat} {held : Bool} {n : Nat} {cs : List Value} {x : DataW H × List MemPlace}
    (h : DataW.trod enc Tryd.prog w base (fun _ => true) held n 26 cs = some x) : ∃ (A : Option Addr) (l : List UInt8) (c : Nat), cs = [.slice A l.length c] ∧ RB w w.heap.size A l c := by
  rcases open_ints Tryd.underlying26 Tryd.underlying5 (by kernel_rfl) h with ⟨hcs, _⟩ | ⟨x, l, c, zs, hcs, _, hl, hm, hz, _, hcell, hwz⟩
  · exact ⟨none, [], 0, hcs, RB.nil_ _ _⟩
  · obtain ⟨m, hml, hr⟩ := RB.of_ints (w := w) (A := some x) (len := l) (cap := c) (zs := zs) (.inr ⟨x, rfl, hl, hm, by simpa using hz, hcell, hwz⟩)
    exact ⟨some x, m, c, by rw [hcs, hml], hr⟩
set_option maxRecDepth 10000 in
theorem open_Krb {H : Type} {enc : TypeId × Value → H} {w : World} {base : Nat} {held : Bool} {r : Reach} {b0 : Nat} {v : Value} {d : DataW H} {p : List MemPlace} (hv : Value.okWide Tryd.prog w r b0 59 v) (h : DataW.Trod enc Tryd.prog w base (fun _ => true) held 59 v d p) :
    ∃ (m : Msg) (T : Option Addr) (tc : Nat) (S : Option Addr) (sc : Nat), v = .agg (kcells m T tc S sc).toArray ∧ KM w w.heap.size m T tc S sc ∧ m.no < 18446744073709551616 ∧ (Lit.int .i64 m.kd).wf = true ∧ (Lit.int .i64 m.en).wf = true ∧ (Lit.int .i64 m.fl).wf = true ∧ (Lit.int .i64 m.co).wf = true := by
  obtain ⟨ca, rfl, hsz⟩ := okWide_struct Tryd.underlying59 hv
  obtain ⟨fuel, hf0⟩ := h
  obtain ⟨xs, n, _, _, hlen, hxl, hf⟩ := DataW.trod_struct Tryd.underlying59 hf0
  simp only [Value.cells] at hf hlen
  have hC : Tryd.prog.cellsOf 59 = 9 := by kernel_rfl
  rw [hC] at hlen
  obtain ⟨cs, hcs⟩ : ∃ cs, ca.toList = cs := ⟨_, rfl⟩
  rw [hcs] at hf hlen
  have hC_int : Tryd.prog.cellsOf 3 = 1 := by kernel_rfl
  have hC_int64 : Tryd.prog.cellsOf 2 = 1 := by kernel_rfl
  have hC_uint64 : Tryd.prog.cellsOf 39 = 1 := by kernel_rfl
  have hC_string : Tryd.prog.cellsOf 9 = 1 := by kernel_rfl
  have hC_bytes : Tryd.prog.cellsOf 26 = 1 := by kernel_rfl
  match xs, hxl with
  | [y0, y1, y2, y3, y4, y5, y6, y7, y8], _ =>
    have h0 := hf 0 _ rfl
    change DataW.trod enc Tryd.prog w base (fun _ => true) held n 3 (List.take (Tryd.prog.cellsOf 3) (List.drop 0 cs)) = some y0 at h0
    rw [hC_int] at h0
    obtain ⟨kd, e0, _, w0⟩ := DataW.trod_int Tryd.underlying3 h0
    have h1 := hf 1 _ rfl
    change DataW.trod enc Tryd.prog w base (fun _ => true) held n 9 (List.take (Tryd.prog.cellsOf 9) (List.drop 1 cs)) = some y1 at h1
    rw [hC_string] at h1
    obtain ⟨c, e1, _, _⟩ := DataW.trod_string Tryd.underlying9 h1
    have h2 := hf 2 _ rfl
    change DataW.trod enc Tryd.prog w base (fun _ => true) held n 9 (List.take (Tryd.prog.cellsOf 9) (List.drop 2 cs)) = some y2 at h2
    rw [hC_string] at h2
    obtain ⟨s, e2, _, _⟩ := DataW.trod_string Tryd.underlying9 h2
    have h3 := hf 3 _ rfl
    change DataW.trod enc Tryd.prog w base (fun _ => true) held n 39 (List.take (Tryd.prog.cellsOf 39) (List.drop 3 cs)) = some y3 at h3
    rw [hC_uint64] at h3
    obtain ⟨no, e3, _, w3⟩ := DataW.trod_int Tryd.underlying39 h3
    have h4 := hf 4 _ rfl
    change DataW.trod enc Tryd.prog w base (fun _ => true) held n 2 (List.take (Tryd.prog.cellsOf 2) (List.drop 4 cs)) = some y4 at h4
    rw [hC_int64] at h4
    obtain ⟨en, e4, _, w4⟩ := DataW.trod_int Tryd.underlying2 h4
    have h5 := hf 5 _ rfl
    change DataW.trod enc Tryd.prog w base (fun _ => true) held n 3 (List.take (Tryd.prog.cellsOf 3) (List.drop 5 cs)) = some y5 at h5
    rw [hC_int] at h5
    obtain ⟨fl, e5, _, w5⟩ := DataW.trod_int Tryd.underlying3 h5
    have h6 := hf 6 _ rfl
    change DataW.trod enc Tryd.prog w base (fun _ => true) held n 26 (List.take (Tryd.prog.cellsOf 26) (List.drop 6 cs)) = some y6 at h6
    rw [hC_bytes] at h6
    obtain ⟨A6, t, c6, e6, r6⟩ := bytes_of_trod h6
    have h7 := hf 7 _ rfl
    change DataW.trod enc Tryd.prog w base (fun _ => true) held n 26 (List.take (Tryd.prog.cellsOf 26) (List.drop 7 cs)) = some y7 at h7
    rw [hC_bytes] at h7
    obtain ⟨A7, sl, c7, e7, r7⟩ := bytes_of_trod h7
    have h8 := hf 8 _ rfl
    change DataW.trod enc Tryd.prog w base (fun _ => true) held n 3 (List.take (Tryd.prog.cellsOf 3) (List.drop 8 cs)) = some y8 at h8
    rw [hC_int] at h8
    obtain ⟨co, e8, _, w8⟩ := DataW.trod_int Tryd.underlying3 h8
    obtain ⟨nn, rfl, hnn⟩ : ∃ m : Nat, no = (m : Int) ∧ m < 18446744073709551616 := by
      have := bounds_u64 w3
      exact ⟨no.toNat, by omega, by omega⟩
    refine ⟨⟨kd, c, s, nn, en, fl, t, sl, co⟩, A6, c6, A7, c7, ?_, ⟨r6, r7⟩, hnn, w0, w4, w5, w8⟩
    have hall : cs.drop 0 = kcells ⟨kd, c, s, nn, en, fl, t, sl, co⟩ A6 c6 A7 c7 := by
      rw [drop_step cs 0 1, e0, show 0 + 1 = 1 from rfl]
      rw [drop_step cs 1 1, e1, show 1 + 1 = 2 from rfl]
      rw [drop_step cs 2 1, e2, show 2 + 1 = 3 from rfl]
      rw [drop_step cs 3 1, e3, show 3 + 1 = 4 from rfl]
      rw [drop_step cs 4 1, e4, show 4 + 1 = 5 from rfl]
      rw [drop_step cs 5 1, e5, show 5 + 1 = 6 from rfl]
      rw [drop_step cs 6 1, e6, show 6 + 1 = 7 from rfl]
      rw [drop_step cs 7 1, e7, show 7 + 1 = 8 from rfl]
      rw [drop_step cs 8 1, e8, show 8 + 1 = 9 from rfl]
      rw [List.drop_eq_nil_of_le (by omega)]
      simp [kcells]
    rw [List.drop_zero] at hall
    congr 1
    apply Array.ext'
    rw [hcs, hall]

theorem yields_conv {P : Program} {ops : Array Oper} {S : World → Prop} {oi : Oper} {a : Act} {s t : TypeId} {u v : Value} (x : Operand) (ho : oi.op = .convert s t x) (hw : Region.wanted oi (yielded ops a.tmps) = true) (hx : a.eval x = u)
    (h : ∀ wx, S wx → (convert s t u).run P wx = .ok v wx) : YieldsIf P ops S oi v a := by
  refine .inl ⟨hw, fun wx hS => ?_⟩
  unfold execOp
  simp only [ho, hx, Sem.run_bind, Sem.run_pure, Result.andThen_ok, h wx hS]
theorem yields_loadC {P : Program} {ops : Array Oper} {S : World → Prop} {oi : Oper} {a : Act} {ty t : TypeId} {n g off : Nat} {cs p : List Value} (hT : AggT P ty n) (x : Operand) (ho : oi.op = .load ty x) (hw : Region.wanted oi (yielded ops a.tmps) = true) (h : ∀ wx, S wx → CB wx g t cs) (hp : (cs.drop off).take n = p) (hl : off + n ≤ cs.length) (hx : a.eval x = .pointer (some ⟨g, off, none⟩)) :
    YieldsIf P ops S oi (.agg p.toArray) a := by
  refine .inl ⟨hw, fun wx hS => ?_⟩
  have hr := run_loadC hT (h wx hS) hp hl
  unfold execOp
  simp only [ho, hx, Instr.loadAt, Instr.sureAddr, Sem.run_bind, Sem.run_pure, Result.andThen_ok, hr]
theorem i64_ofK {n : Int} (h : (Lit.int .i64 n).wf = true) : I64 n := by
  have := bounds_i64 h
  unfold I64
  omega
theorem I64K.of {m : Msg} (hn : m.no < 18446744073709551616) (h1 : (Lit.int .i64 m.kd).wf = true) (h2 : (Lit.int .i64 m.en).wf = true) (h3 : (Lit.int .i64 m.fl).wf = true) (h4 : (Lit.int .i64 m.co).wf = true) : I64K m := ⟨i64_ofK h1, i64_ofK h2, i64_ofK h3, i64_ofK h4, hn⟩
theorem lensK_of {m : Msg} (h : greatK m = false) : lensK m := by
  have := greatK_lens h
  unfold lensK
  omega
set_option maxRecDepth 100000 in
set_option maxHeartbeats 4000000 in
theorem walk_KrbApart (w : World) (hM : ML w) (a : Msg) (T : Option Addr) (tc : Nat) (S : Option Addr) (sc : Nat) (hka : KM w w.heap.size a T tc S sc) (hna : a.no < 18446744073709551616) (wa1 : (Lit.int .i64 a.kd).wf = true) (wa2 : (Lit.int .i64 a.en).wf = true) (wa3 : (Lit.int .i64 a.fl).wf = true) (wa4 : (Lit.int .i64 a.co).wf = true)
    (b : Msg) (T2 : Option Addr) (tc2 : Nat) (S2 : Option Addr) (sc2 : Nat) (hkb : KM w w.heap.size b T2 tc2 S2 sc2) (hnb : b.no < 18446744073709551616) (wb1 : (Lit.int .i64 b.kd).wf = true) (wb2 : (Lit.int .i64 b.en).wf = true) (wb3 : (Lit.int .i64 b.fl).wf = true) (wb4 : (Lit.int .i64 b.co).wf = true) :
    Calls Tryd.prog 9 #[.agg (kcells a T tc S sc).toArray, .agg (kcells b T2 tc2 S2 sc2).toArray] w fun e w' => e = .returned (.bool true) ∧ Below w.heap.size w w' := by
  have HM := Lib.hid hM
  have HKa := Lib.hid hka
  have HKb := Lib.hid hkb
  have HNa := Lib.hid hna
  have HNb := Lib.hid hnb
  have IA := Lib.hid (I64K.of hna wa1 wa2 wa3 wa4)
  have IB := Lib.hid (I64K.of hnb wb1 wb2 wb3 wb4)
  obtain ⟨X, hX⟩ : ∃ X, kcells a T tc S sc = X := ⟨_, rfl⟩
  obtain ⟨Y, hY⟩ : ∃ Y, kcells b T2 tc2 S2 sc2 = Y := ⟨_, rfl⟩
  have HX := Lib.hid hX
  have HY := Lib.hid hY
  have XL := Lib.hid (show X.length = 9 by rw [← hX]; rfl)
  have YL := Lib.hid (show Y.length = 9 by rw [← hY]; rfl)
  rw [hX, hY]
  have BX0 := Lib.hid ((CB.new w 59 X).alloc (.cells Y.toArray 59))
  have BY0 := Lib.hid (CB.new1 w (.cells X.toArray 59) 59 Y)
  have G0 := Lib.hid (grown_trans' (grown_alloc w (.cells X.toArray 59) none) (grown_alloc _ (.cells Y.toArray 59) none))
  obtain ⟨ga, hga⟩ : ∃ g, greatK a = g := ⟨_, rfl⟩
  obtain ⟨gb, hgb⟩ : ∃ g, greatK b = g := ⟨_, rfl⟩
  have HGA := Lib.hid hga
  have HGB := Lib.hid hgb
  obtain ⟨oa, hoa⟩ : ∃ o, okK a = o := ⟨_, rfl⟩
  obtain ⟨ob, hob⟩ : ∃ o, okK b = o := ⟨_, rfl⟩
  have HOa := Lib.hid hoa
  have HOb := Lib.hid hob
  obtain ⟨sm, hsm⟩ : ∃ o, sameK a b = o := ⟨_, rfl⟩
  have HSM := Lib.hid hsm
  obtain ⟨La, hla⟩ : ∃ L, bytesK a = L := ⟨_, rfl⟩
  obtain ⟨Lb, hlb⟩ : ∃ L, bytesK b = L := ⟨_, rfl⟩
  obtain ⟨na, hnla⟩ : ∃ n, La.length = n := ⟨_, rfl⟩
  obtain ⟨nb, hnlb⟩ : ∃ n, Lb.length = n := ⟨_, rfl⟩
  have HBa := Lib.hid hla
  have HBb := Lib.hid hlb
  have HLNa := Lib.hid hnla
  have HLNb := Lib.hid hnlb
  clear hM hka hkb hna hnb wa1 wa2 wa3 wa4 wb1 wb2 wb3 wb4 hX hY hga hgb hoa hob hsm hla hlb hnla hnlb
  cases ga with
  | true =>
    go_enter Tryd.func9, Tryd.ntmps9
    go_wp2_with (first
      | (go_at_call 29; refine (kspeaks_any _ (HM.out.below (below_of_none G0.out))).mono ?_; rintro e w1 ⟨rfl, g⟩; have G1 := Lib.hid (grown_trans' G0.out g); have BX1 := Lib.hid (BX0.out.kept g); have BY1 := Lib.hid (BY0.out.kept g); have TA := Lib.hid True.intro; clear g)
      | refine wpList_loadC (off := 0) (p := X) aggKm rfl (.tmp 2) rfl BX1.out (by rw [List.drop_zero]; exact List.take_of_length_le (by rw [XL.out]; exact Nat.le_refl _)) (by rw [XL.out]; omega) (by first | rfl | go_simp) ?_
      | (go_at_call 30; have hx := TA; clear hx; rw [← HX.out]; refine (great_k a T tc S sc _).mono ?_; rw [HX.out, HGA.out]; rintro e w2 ⟨rfl, g⟩; have G2 := Lib.hid (grown_trans' G1.out g); have BX2 := Lib.hid (BX1.out.kept g); have BY2 := Lib.hid (BY1.out.kept g); clear TA g))
    go_ret
    exact ⟨rfl, below_of_none G2.out⟩
  | false =>
  cases gb with
  | true =>
    go_enter Tryd.func9, Tryd.ntmps9
    go_wp2_with (first
      | (go_at_call 29; refine (kspeaks_any _ (HM.out.below (below_of_none G0.out))).mono ?_; rintro e w1 ⟨rfl, g⟩; have G1 := Lib.hid (grown_trans' G0.out g); have BX1 := Lib.hid (BX0.out.kept g); have BY1 := Lib.hid (BY0.out.kept g); have TA := Lib.hid True.intro; clear g)
      | refine wpList_loadC (off := 0) (p := X) aggKm rfl (.tmp 2) rfl BX1.out (by rw [List.drop_zero]; exact List.take_of_length_le (by rw [XL.out]; exact Nat.le_refl _)) (by rw [XL.out]; omega) (by first | rfl | go_simp) ?_
      | (go_at_call 30; have hx := TA; clear hx; rw [← HX.out]; refine (great_k a T tc S sc _).mono ?_; rw [HX.out, HGA.out]; rintro e w2 ⟨rfl, g⟩; have G2 := Lib.hid (grown_trans' G1.out g); have BX2 := Lib.hid (BX1.out.kept g); have BY2 := Lib.hid (BY1.out.kept g); clear TA g)
      | refine wpList_loadCg (off := 0) (p := Y) aggKm (by first | rfl | go_simp) (.tmp 3) rfl BY2.out (by rw [List.drop_zero]; exact List.take_of_length_le (by rw [YL.out]; exact Nat.le_refl _)) (by rw [YL.out]; omega) (by first | rfl | go_simp) ?_
      | (go_at_call 30; rw [← HY.out]; refine (great_k b T2 tc2 S2 sc2 _).mono ?_; rw [HY.out, HGB.out]; rintro e w3 ⟨rfl, g⟩; have G3 := Lib.hid (grown_trans' G2.out g); have BX3 := Lib.hid (BX2.out.kept g); have BY3 := Lib.hid (BY2.out.kept g); have TW := Lib.hid True.intro; clear g))
    go_ret
    exact ⟨rfl, below_of_none G3.out⟩
  | false =>
  have HLa := Lib.hid (lensK_of HGA.out)
  have HLb := Lib.hid (lensK_of HGB.out)
  cases oa with
  | false =>
    cases ob with
    | false =>
      go_enter Tryd.func9, Tryd.ntmps9
      go_wp2_with (first
        | (go_at_call 29; refine (kspeaks_any _ (HM.out.below (below_of_none G0.out))).mono ?_; rintro e w1 ⟨rfl, g⟩; have G1 := Lib.hid (grown_trans' G0.out g); have BX1 := Lib.hid (BX0.out.kept g); have BY1 := Lib.hid (BY0.out.kept g); have TA := Lib.hid True.intro; clear g)
        | (go_at_call 30; have hx := TA; clear hx; rw [← HX.out]; refine (great_k a T tc S sc _).mono ?_; rw [HX.out, HGA.out]; rintro e w2 ⟨rfl, g⟩; have G2 := Lib.hid (grown_trans' G1.out g); have BX2 := Lib.hid (BX1.out.kept g); have BY2 := Lib.hid (BY1.out.kept g); clear TA g)
        | (go_at_call 30; rw [← HY.out]; refine (great_k b T2 tc2 S2 sc2 _).mono ?_; rw [HY.out, HGB.out]; rintro e w3 ⟨rfl, g⟩; have G3 := Lib.hid (grown_trans' G2.out g); have BX3 := Lib.hid (BX2.out.kept g); have BY3 := Lib.hid (BY2.out.kept g); have TW := Lib.hid True.intro; clear g)
        | refine wpList_loadC (off := 0) (p := X) aggKm rfl (.tmp 2) rfl BX1.out (by rw [List.drop_zero]; exact List.take_of_length_le (by rw [XL.out]; exact Nat.le_refl _)) (by rw [XL.out]; omega) (by first | rfl | go_simp) ?_
        | refine wpList_loadCg (off := 0) (p := Y) aggKm (by first | rfl | go_simp) (.tmp 3) rfl BY2.out (by rw [List.drop_zero]; exact List.take_of_length_le (by rw [YL.out]; exact Nat.le_refl _)) (by rw [YL.out]; omega) (by first | rfl | go_simp) ?_
        | refine wpList_loadC (off := 0) (p := X) aggKm rfl (.tmp 2) rfl BX3.out (by rw [List.drop_zero]; exact List.take_of_length_le (by rw [XL.out]; exact Nat.le_refl _)) (by rw [XL.out]; omega) (by first | rfl | go_simp) ?_
        | (go_at_call 31; have hx := TW; clear hx; rw [← HX.out]; refine (kwrite_any a T tc S sc w.heap.size _ (HM.out.below (below_of_none G3.out)) (HKa.out.kept G3.out (Nat.le_refl _)) G3.out.size HNa.out HLa.out).mono ?_; rw [HX.out]; rintro e w4 ⟨g, h⟩; rw [HOa.out] at h; rw [if_neg (by simp)] at h; subst h; have G4 := Lib.hid (grown_trans' G3.out g); have BX4 := Lib.hid (BX3.out.kept g); have BY4 := Lib.hid (BY3.out.kept g); clear TW; clear g)
        | refine wpList_loadC (off := 0) (p := Y) aggKm rfl (.tmp 3) rfl BY4.out (by rw [List.drop_zero]; exact List.take_of_length_le (by rw [YL.out]; exact Nat.le_refl _)) (by rw [YL.out]; omega) (by first | rfl | go_simp) ?_
        | (go_at_call 31; rw [← HY.out]; refine (kwrite_any b T2 tc2 S2 sc2 w.heap.size _ (HM.out.below (below_of_none G4.out)) (HKb.out.kept G4.out (Nat.le_refl _)) G4.out.size HNb.out HLb.out).mono ?_; rw [HY.out]; rintro e w5 ⟨g, h⟩; rw [HOb.out] at h; rw [if_neg (by simp)] at h; subst h; have G5 := Lib.hid (grown_trans' G4.out g); have BX5 := Lib.hid (BX4.out.kept g); have BY5 := Lib.hid (BY4.out.kept g); clear g))
      have GD := Lib.hid (grown_drew G5.out)
      refine heldb_begin w5.drew.heap.size (by kernel_rfl) (fun hS1 => ?_)
      have GZ := Lib.hid (World.grownBy.refl w5.drew none)
      generalize w5.drew = wd at *
      refine heldb_take (i := 0) (d := some 27) (v := ?vqp1z7x1) (by assumption) rfl rfl (by kernel_rfl) (fun _ _ _ h => h) ?yqp1z7x1 ?_; case yqp1z7x1 => (refine Or.inl ⟨rfl, fun wx hS => ?_⟩; go_simp; try with_reducible rfl)
      try simp only [Act.put, List.setIfInBounds_toArray, List.set_cons_zero, List.set_cons_succ]
      refine heldb_take (i := 1) (d := some 28) (v := ?vqp1z7x2) (by assumption) rfl rfl (by kernel_rfl) (fun _ _ _ h => h) ?yqp1z7x2 ?_; case yqp1z7x2 => (refine Or.inl ⟨rfl, fun wx hS => ?_⟩; go_simp; try with_reducible rfl)
      try simp only [Act.put, List.setIfInBounds_toArray, List.set_cons_zero, List.set_cons_succ]
      refine heldb_take (i := 2) (d := some 29) (v := ?vqp1z7x3) (by assumption) rfl rfl (by kernel_rfl) (fun _ _ _ h => h) ?yqp1z7x3 ?_; case yqp1z7x3 => (refine Or.inl ⟨rfl, fun wx hS => ?_⟩; go_simp; try with_reducible rfl)
      try simp only [Act.put, List.setIfInBounds_toArray, List.set_cons_zero, List.set_cons_succ]
      first | refine heldb_skip (i := 3) (d := some 30) (by assumption) rfl rfl (by kernel_rfl) (fun _ _ _ h => h) rfl ?_ | (refine heldb_take (i := 3) (d := some 30) (v := ?vqp1z7x4) (by assumption) rfl rfl (by kernel_rfl) (fun _ _ _ h => h) ?yqp1z7x4 ?_; case yqp1z7x4 => (refine Or.inl ⟨rfl, fun wx hS => ?_⟩; go_simp; try with_reducible rfl))
      try simp only [Act.put, List.setIfInBounds_toArray, List.set_cons_zero, List.set_cons_succ]
      first | refine heldb_skip (i := 4) (d := some 31) (by assumption) rfl rfl (by kernel_rfl) (fun _ _ _ h => h) rfl ?_ | (refine heldb_take (i := 4) (d := some 31) (v := ?vqp1z7x5) (by assumption) rfl rfl (by kernel_rfl) (fun _ _ _ h => h) ?yqp1z7x5 ?_; case yqp1z7x5 => (refine Or.inl ⟨rfl, fun wx hS => ?_⟩; go_simp; try with_reducible rfl))
      try simp only [Act.put, List.setIfInBounds_toArray, List.set_cons_zero, List.set_cons_succ]
      refine heldb_take (i := 5) (d := some 32) (v := ?vqp1z7x6) (by assumption) rfl rfl (by kernel_rfl) (fun _ _ _ h => h) ?yqp1z7x6 ?_; case yqp1z7x6 => (refine Or.inl ⟨rfl, fun wx hS => ?_⟩; go_simp; try with_reducible rfl)
      try simp only [Act.put, List.setIfInBounds_toArray, List.set_cons_zero, List.set_cons_succ]
      refine heldb_take (i := 6) (d := some 33) (v := ?vqp1z7x7) (by assumption) rfl rfl (by kernel_rfl) (fun _ _ _ h => h) ?yqp1z7x7 ?_; case yqp1z7x7 => (refine Or.inl ⟨rfl, fun wx hS => ?_⟩; go_simp; try with_reducible rfl)
      try simp only [Act.put, List.setIfInBounds_toArray, List.set_cons_zero, List.set_cons_succ]
      first | refine heldb_skip (i := 7) (d := some 34) (by assumption) rfl rfl (by kernel_rfl) (fun _ _ _ h => h) rfl ?_ | (refine heldb_take (i := 7) (d := some 34) (v := ?vqp1z7x8) (by assumption) rfl rfl (by kernel_rfl) (fun _ _ _ h => h) ?yqp1z7x8 ?_; case yqp1z7x8 => (refine Or.inl ⟨rfl, fun wx hS => ?_⟩; go_simp; try with_reducible rfl))
      try simp only [Act.put, List.setIfInBounds_toArray, List.set_cons_zero, List.set_cons_succ]
      first | refine heldb_skip (i := 8) (d := some 35) (by assumption) rfl rfl (by kernel_rfl) (fun _ _ _ h => h) rfl ?_ | (refine heldb_take (i := 8) (d := some 35) (v := ?vqp1z7x9) (by assumption) rfl rfl (by kernel_rfl) (fun _ _ _ h => h) ?yqp1z7x9 ?_; case yqp1z7x9 => (refine Or.inl ⟨rfl, fun wx hS => ?_⟩; go_simp; try with_reducible rfl))
      try simp only [Act.put, List.setIfInBounds_toArray, List.set_cons_zero, List.set_cons_succ]
      first | refine heldb_skip (i := 9) (d := some 36) (by assumption) rfl rfl (by kernel_rfl) (fun _ _ _ h => h) rfl ?_ | (refine heldb_take (i := 9) (d := some 36) (v := ?vqp1z7x10) (by assumption) rfl rfl (by kernel_rfl) (fun _ _ _ h => h) ?yqp1z7x10 ?_; case yqp1z7x10 => (refine Or.inl ⟨rfl, fun wx hS => ?_⟩; go_simp; try with_reducible rfl))
      try simp only [Act.put, List.setIfInBounds_toArray, List.set_cons_zero, List.set_cons_succ]
      first | refine heldb_skip (i := 10) (d := some 37) (by assumption) rfl rfl (by kernel_rfl) (fun _ _ _ h => h) rfl ?_ | (refine heldb_take (i := 10) (d := some 37) (v := ?vqp1z7x11) (by assumption) rfl rfl (by kernel_rfl) (fun _ _ _ h => h) ?yqp1z7x11 ?_; case yqp1z7x11 => (refine Or.inl ⟨rfl, fun wx hS => ?_⟩; go_simp; try with_reducible rfl))
      try simp only [Act.put, List.setIfInBounds_toArray, List.set_cons_zero, List.set_cons_succ]
      first | refine heldb_skip (i := 11) (d := some 38) (by assumption) rfl rfl (by kernel_rfl) (fun _ _ _ h => h) rfl ?_ | (refine heldb_take (i := 11) (d := some 38) (v := ?vqp1z7x12) (by assumption) rfl rfl (by kernel_rfl) (fun _ _ _ h => h) ?yqp1z7x12 ?_; case yqp1z7x12 => (refine Or.inl ⟨rfl, fun wx hS => ?_⟩; go_simp; try with_reducible rfl))
      try simp only [Act.put, List.setIfInBounds_toArray, List.set_cons_zero, List.set_cons_succ]
      first | refine heldb_skip (i := 12) (d := some 39) (by assumption) rfl rfl (by kernel_rfl) (fun _ _ _ h => h) rfl ?_ | (refine heldb_take (i := 12) (d := some 39) (v := ?vqp1z7x13) (by assumption) rfl rfl (by kernel_rfl) (fun _ _ _ h => h) ?yqp1z7x13 ?_; case yqp1z7x13 => (refine Or.inl ⟨rfl, fun wx hS => ?_⟩; go_simp; try with_reducible rfl))
      try simp only [Act.put, List.setIfInBounds_toArray, List.set_cons_zero, List.set_cons_succ]
      first | refine heldb_skip (i := 13) (d := some 40) (by assumption) rfl rfl (by kernel_rfl) (fun _ _ _ h => h) rfl ?_ | (refine heldb_take (i := 13) (d := some 40) (v := ?vqp1z7x14) (by assumption) rfl rfl (by kernel_rfl) (fun _ _ _ h => h) ?yqp1z7x14 ?_; case yqp1z7x14 => (refine Or.inl ⟨rfl, fun wx hS => ?_⟩; go_simp; try with_reducible rfl))
      try simp only [Act.put, List.setIfInBounds_toArray, List.set_cons_zero, List.set_cons_succ]
      first | refine heldb_skip (i := 14) (d := some 41) (by assumption) rfl rfl (by kernel_rfl) (fun _ _ _ h => h) rfl ?_ | (refine heldb_take (i := 14) (d := some 41) (v := ?vqp1z7x15) (by assumption) rfl rfl (by kernel_rfl) (fun _ _ _ h => h) ?yqp1z7x15 ?_; case yqp1z7x15 => (refine Or.inl ⟨rfl, fun wx hS => ?_⟩; go_simp; try with_reducible rfl))
      try simp only [Act.put, List.setIfInBounds_toArray, List.set_cons_zero, List.set_cons_succ]
      first | refine heldb_skip (i := 15) (d := some 42) (by assumption) rfl rfl (by kernel_rfl) (fun _ _ _ h => h) rfl ?_ | (refine heldb_take (i := 15) (d := some 42) (v := ?vqp1z7x16) (by assumption) rfl rfl (by kernel_rfl) (fun _ _ _ h => h) ?yqp1z7x16 ?_; case yqp1z7x16 => (refine Or.inl ⟨rfl, fun wx hS => ?_⟩; go_simp; try with_reducible rfl))
      try simp only [Act.put, List.setIfInBounds_toArray, List.set_cons_zero, List.set_cons_succ]
      refine heldb_take (i := 16) (d := some 43) (v := ?vqp1z7x17) (by assumption) rfl rfl (by kernel_rfl) (fun _ _ _ h => h) ?yqp1z7x17 ?_; case yqp1z7x17 => (refine Or.inl ⟨rfl, fun wx hS => ?_⟩; go_simp; try with_reducible rfl)
      try simp only [Act.put, List.setIfInBounds_toArray, List.set_cons_zero, List.set_cons_succ]
      refine heldb_take (i := 17) (d := some 4) (v := ?vqp1z7x18) (by assumption) rfl rfl (by kernel_rfl) (fun _ _ _ h => h) ?yqp1z7x18 ?_; case yqp1z7x18 => (refine Or.inl ⟨rfl, fun wx hS => ?_⟩; go_simp; try with_reducible rfl)
      try simp only [Act.put, List.setIfInBounds_toArray, List.set_cons_zero, List.set_cons_succ]
      refine held_end (by kernel_rfl) ?_ _
      go_wp2
      go_ret
      exact ⟨rfl, below_of_none (grown_trans' GD.out GZ.out)⟩
    | true =>
      go_enter Tryd.func9, Tryd.ntmps9
      go_wp2_with (first
        | (go_at_call 29; refine (kspeaks_any _ (HM.out.below (below_of_none G0.out))).mono ?_; rintro e w1 ⟨rfl, g⟩; have G1 := Lib.hid (grown_trans' G0.out g); have BX1 := Lib.hid (BX0.out.kept g); have BY1 := Lib.hid (BY0.out.kept g); have TA := Lib.hid True.intro; clear g)
        | (go_at_call 30; have hx := TA; clear hx; rw [← HX.out]; refine (great_k a T tc S sc _).mono ?_; rw [HX.out, HGA.out]; rintro e w2 ⟨rfl, g⟩; have G2 := Lib.hid (grown_trans' G1.out g); have BX2 := Lib.hid (BX1.out.kept g); have BY2 := Lib.hid (BY1.out.kept g); clear TA g)
        | (go_at_call 30; rw [← HY.out]; refine (great_k b T2 tc2 S2 sc2 _).mono ?_; rw [HY.out, HGB.out]; rintro e w3 ⟨rfl, g⟩; have G3 := Lib.hid (grown_trans' G2.out g); have BX3 := Lib.hid (BX2.out.kept g); have BY3 := Lib.hid (BY2.out.kept g); have TW := Lib.hid True.intro; clear g)
        | refine wpList_loadC (off := 0) (p := X) aggKm rfl (.tmp 2) rfl BX1.out (by rw [List.drop_zero]; exact List.take_of_length_le (by rw [XL.out]; exact Nat.le_refl _)) (by rw [XL.out]; omega) (by first | rfl | go_simp) ?_
        | refine wpList_loadCg (off := 0) (p := Y) aggKm (by first | rfl | go_simp) (.tmp 3) rfl BY2.out (by rw [List.drop_zero]; exact List.take_of_length_le (by rw [YL.out]; exact Nat.le_refl _)) (by rw [YL.out]; omega) (by first | rfl | go_simp) ?_
        | refine wpList_loadC (off := 0) (p := X) aggKm rfl (.tmp 2) rfl BX3.out (by rw [List.drop_zero]; exact List.take_of_length_le (by rw [XL.out]; exact Nat.le_refl _)) (by rw [XL.out]; omega) (by first | rfl | go_simp) ?_
        | (go_at_call 31; have hx := TW; clear hx; rw [← HX.out]; refine (kwrite_any a T tc S sc w.heap.size _ (HM.out.below (below_of_none G3.out)) (HKa.out.kept G3.out (Nat.le_refl _)) G3.out.size HNa.out HLa.out).mono ?_; rw [HX.out]; rintro e w4 ⟨g, h⟩; rw [HOa.out] at h; rw [if_neg (by simp)] at h; subst h; have G4 := Lib.hid (grown_trans' G3.out g); have BX4 := Lib.hid (BX3.out.kept g); have BY4 := Lib.hid (BY3.out.kept g); clear TW; clear g)
        | refine wpList_loadC (off := 0) (p := Y) aggKm rfl (.tmp 3) rfl BY4.out (by rw [List.drop_zero]; exact List.take_of_length_le (by rw [YL.out]; exact Nat.le_refl _)) (by rw [YL.out]; omega) (by first | rfl | go_simp) ?_
        | (go_at_call 31; rw [← HY.out]; refine (kwrite_any b T2 tc2 S2 sc2 w.heap.size _ (HM.out.below (below_of_none G4.out)) (HKb.out.kept G4.out (Nat.le_refl _)) G4.out.size HNb.out HLb.out).mono ?_; rw [HY.out]; rintro e w5 ⟨g, h⟩; rw [HOb.out] at h; rw [if_pos rfl] at h; obtain ⟨v, rfl, bb⟩ := h; obtain ⟨Ab, cb, rfl, r⟩ := bb; rw [HBb.out] at r; rw [HBb.out, HLNb.out]; have Rb5 := Lib.hid r; clear r; have G5 := Lib.hid (grown_trans' G4.out g); have BX5 := Lib.hid (BX4.out.kept g); have BY5 := Lib.hid (BY4.out.kept g); clear g))
      have GD := Lib.hid (grown_drew G5.out)
      refine heldb_begin w5.drew.heap.size (by kernel_rfl) (fun hS1 => ?_)
      have GZ := Lib.hid (World.grownBy.refl w5.drew none)
      generalize w5.drew = wd at *
      refine heldb_take (i := 0) (d := some 27) (v := ?vqp2z7x1) (by assumption) rfl rfl (by kernel_rfl) (fun _ _ _ h => h) ?yqp2z7x1 ?_; case yqp2z7x1 => (refine Or.inl ⟨rfl, fun wx hS => ?_⟩; go_simp; try with_reducible rfl)
      try simp only [Act.put, List.setIfInBounds_toArray, List.set_cons_zero, List.set_cons_succ]
      refine heldb_take (i := 1) (d := some 28) (v := ?vqp2z7x2) (by assumption) rfl rfl (by kernel_rfl) (fun _ _ _ h => h) ?yqp2z7x2 ?_; case yqp2z7x2 => (refine Or.inl ⟨rfl, fun wx hS => ?_⟩; go_simp; try with_reducible rfl)
      try simp only [Act.put, List.setIfInBounds_toArray, List.set_cons_zero, List.set_cons_succ]
      refine heldb_take (i := 2) (d := some 29) (v := ?vqp2z7x3) (by assumption) rfl rfl (by kernel_rfl) (fun _ _ _ h => h) ?yqp2z7x3 ?_; case yqp2z7x3 => (refine Or.inl ⟨rfl, fun wx hS => ?_⟩; go_simp; try with_reducible rfl)
      try simp only [Act.put, List.setIfInBounds_toArray, List.set_cons_zero, List.set_cons_succ]
      first | refine heldb_skip (i := 3) (d := some 30) (by assumption) rfl rfl (by kernel_rfl) (fun _ _ _ h => h) rfl ?_ | (refine heldb_take (i := 3) (d := some 30) (v := ?vqp2z7x4) (by assumption) rfl rfl (by kernel_rfl) (fun _ _ _ h => h) ?yqp2z7x4 ?_; case yqp2z7x4 => (refine Or.inl ⟨rfl, fun wx hS => ?_⟩; go_simp; try with_reducible rfl))
      try simp only [Act.put, List.setIfInBounds_toArray, List.set_cons_zero, List.set_cons_succ]
      first | refine heldb_skip (i := 4) (d := some 31) (by assumption) rfl rfl (by kernel_rfl) (fun _ _ _ h => h) rfl ?_ | (refine heldb_take (i := 4) (d := some 31) (v := ?vqp2z7x5) (by assumption) rfl rfl (by kernel_rfl) (fun _ _ _ h => h) ?yqp2z7x5 ?_; case yqp2z7x5 => (refine Or.inl ⟨rfl, fun wx hS => ?_⟩; go_simp; try with_reducible rfl))
      try simp only [Act.put, List.setIfInBounds_toArray, List.set_cons_zero, List.set_cons_succ]
      refine heldb_take (i := 5) (d := some 32) (v := ?vqp2z7x6) (by assumption) rfl rfl (by kernel_rfl) (fun _ _ _ h => h) ?yqp2z7x6 ?_; case yqp2z7x6 => (refine Or.inl ⟨rfl, fun wx hS => ?_⟩; go_simp; try with_reducible rfl)
      try simp only [Act.put, List.setIfInBounds_toArray, List.set_cons_zero, List.set_cons_succ]
      refine heldb_take (i := 6) (d := some 33) (v := ?vqp2z7x7) (by assumption) rfl rfl (by kernel_rfl) (fun _ _ _ h => h) ?yqp2z7x7 ?_; case yqp2z7x7 => (refine Or.inl ⟨rfl, fun wx hS => ?_⟩; go_simp; try with_reducible rfl)
      try simp only [Act.put, List.setIfInBounds_toArray, List.set_cons_zero, List.set_cons_succ]
      first | refine heldb_skip (i := 7) (d := some 34) (by assumption) rfl rfl (by kernel_rfl) (fun _ _ _ h => h) rfl ?_ | (refine heldb_take (i := 7) (d := some 34) (v := ?vqp2z7x8) (by assumption) rfl rfl (by kernel_rfl) (fun _ _ _ h => h) ?yqp2z7x8 ?_; case yqp2z7x8 => (refine Or.inl ⟨rfl, fun wx hS => ?_⟩; go_simp; try with_reducible rfl))
      try simp only [Act.put, List.setIfInBounds_toArray, List.set_cons_zero, List.set_cons_succ]
      first | refine heldb_skip (i := 8) (d := some 35) (by assumption) rfl rfl (by kernel_rfl) (fun _ _ _ h => h) rfl ?_ | (refine heldb_take (i := 8) (d := some 35) (v := ?vqp2z7x9) (by assumption) rfl rfl (by kernel_rfl) (fun _ _ _ h => h) ?yqp2z7x9 ?_; case yqp2z7x9 => (refine Or.inl ⟨rfl, fun wx hS => ?_⟩; go_simp; try with_reducible rfl))
      try simp only [Act.put, List.setIfInBounds_toArray, List.set_cons_zero, List.set_cons_succ]
      first | refine heldb_skip (i := 9) (d := some 36) (by assumption) rfl rfl (by kernel_rfl) (fun _ _ _ h => h) rfl ?_ | (refine heldb_take (i := 9) (d := some 36) (v := ?vqp2z7x10) (by assumption) rfl rfl (by kernel_rfl) (fun _ _ _ h => h) ?yqp2z7x10 ?_; case yqp2z7x10 => (refine Or.inl ⟨rfl, fun wx hS => ?_⟩; go_simp; try with_reducible rfl))
      try simp only [Act.put, List.setIfInBounds_toArray, List.set_cons_zero, List.set_cons_succ]
      first | refine heldb_skip (i := 10) (d := some 37) (by assumption) rfl rfl (by kernel_rfl) (fun _ _ _ h => h) rfl ?_ | (refine heldb_take (i := 10) (d := some 37) (v := ?vqp2z7x11) (by assumption) rfl rfl (by kernel_rfl) (fun _ _ _ h => h) ?yqp2z7x11 ?_; case yqp2z7x11 => (refine Or.inl ⟨rfl, fun wx hS => ?_⟩; go_simp; try with_reducible rfl))
      try simp only [Act.put, List.setIfInBounds_toArray, List.set_cons_zero, List.set_cons_succ]
      first | refine heldb_skip (i := 11) (d := some 38) (by assumption) rfl rfl (by kernel_rfl) (fun _ _ _ h => h) rfl ?_ | (refine heldb_take (i := 11) (d := some 38) (v := ?vqp2z7x12) (by assumption) rfl rfl (by kernel_rfl) (fun _ _ _ h => h) ?yqp2z7x12 ?_; case yqp2z7x12 => (refine Or.inl ⟨rfl, fun wx hS => ?_⟩; go_simp; try with_reducible rfl))
      try simp only [Act.put, List.setIfInBounds_toArray, List.set_cons_zero, List.set_cons_succ]
      first | refine heldb_skip (i := 12) (d := some 39) (by assumption) rfl rfl (by kernel_rfl) (fun _ _ _ h => h) rfl ?_ | (refine heldb_take (i := 12) (d := some 39) (v := ?vqp2z7x13) (by assumption) rfl rfl (by kernel_rfl) (fun _ _ _ h => h) ?yqp2z7x13 ?_; case yqp2z7x13 => (refine Or.inl ⟨rfl, fun wx hS => ?_⟩; go_simp; try with_reducible rfl))
      try simp only [Act.put, List.setIfInBounds_toArray, List.set_cons_zero, List.set_cons_succ]
      first | refine heldb_skip (i := 13) (d := some 40) (by assumption) rfl rfl (by kernel_rfl) (fun _ _ _ h => h) rfl ?_ | (refine heldb_take (i := 13) (d := some 40) (v := ?vqp2z7x14) (by assumption) rfl rfl (by kernel_rfl) (fun _ _ _ h => h) ?yqp2z7x14 ?_; case yqp2z7x14 => (refine Or.inl ⟨rfl, fun wx hS => ?_⟩; go_simp; try with_reducible rfl))
      try simp only [Act.put, List.setIfInBounds_toArray, List.set_cons_zero, List.set_cons_succ]
      first | refine heldb_skip (i := 14) (d := some 41) (by assumption) rfl rfl (by kernel_rfl) (fun _ _ _ h => h) rfl ?_ | (refine heldb_take (i := 14) (d := some 41) (v := ?vqp2z7x15) (by assumption) rfl rfl (by kernel_rfl) (fun _ _ _ h => h) ?yqp2z7x15 ?_; case yqp2z7x15 => (refine Or.inl ⟨rfl, fun wx hS => ?_⟩; go_simp; try with_reducible rfl))
      try simp only [Act.put, List.setIfInBounds_toArray, List.set_cons_zero, List.set_cons_succ]
      first | refine heldb_skip (i := 15) (d := some 42) (by assumption) rfl rfl (by kernel_rfl) (fun _ _ _ h => h) rfl ?_ | (refine heldb_take (i := 15) (d := some 42) (v := ?vqp2z7x16) (by assumption) rfl rfl (by kernel_rfl) (fun _ _ _ h => h) ?yqp2z7x16 ?_; case yqp2z7x16 => (refine Or.inl ⟨rfl, fun wx hS => ?_⟩; go_simp; try with_reducible rfl))
      try simp only [Act.put, List.setIfInBounds_toArray, List.set_cons_zero, List.set_cons_succ]
      refine heldb_take (i := 16) (d := some 43) (v := ?vqp2z7x17) (by assumption) rfl rfl (by kernel_rfl) (fun _ _ _ h => h) ?yqp2z7x17 ?_; case yqp2z7x17 => (refine Or.inl ⟨rfl, fun wx hS => ?_⟩; go_simp; try with_reducible rfl)
      try simp only [Act.put, List.setIfInBounds_toArray, List.set_cons_zero, List.set_cons_succ]
      refine heldb_take (i := 17) (d := some 4) (v := ?vqp2z7x18) (by assumption) rfl rfl (by kernel_rfl) (fun _ _ _ h => h) ?yqp2z7x18 ?_; case yqp2z7x18 => (refine Or.inl ⟨rfl, fun wx hS => ?_⟩; go_simp; try with_reducible rfl)
      try simp only [Act.put, List.setIfInBounds_toArray, List.set_cons_zero, List.set_cons_succ]
      refine held_end (by kernel_rfl) ?_ _
      go_wp2
      go_ret
      exact ⟨rfl, below_of_none (grown_trans' GD.out GZ.out)⟩
  | true =>
    cases ob with
    | false =>
      go_enter Tryd.func9, Tryd.ntmps9
      go_wp2_with (first
        | (go_at_call 29; refine (kspeaks_any _ (HM.out.below (below_of_none G0.out))).mono ?_; rintro e w1 ⟨rfl, g⟩; have G1 := Lib.hid (grown_trans' G0.out g); have BX1 := Lib.hid (BX0.out.kept g); have BY1 := Lib.hid (BY0.out.kept g); have TA := Lib.hid True.intro; clear g)
        | (go_at_call 30; have hx := TA; clear hx; rw [← HX.out]; refine (great_k a T tc S sc _).mono ?_; rw [HX.out, HGA.out]; rintro e w2 ⟨rfl, g⟩; have G2 := Lib.hid (grown_trans' G1.out g); have BX2 := Lib.hid (BX1.out.kept g); have BY2 := Lib.hid (BY1.out.kept g); clear TA g)
        | (go_at_call 30; rw [← HY.out]; refine (great_k b T2 tc2 S2 sc2 _).mono ?_; rw [HY.out, HGB.out]; rintro e w3 ⟨rfl, g⟩; have G3 := Lib.hid (grown_trans' G2.out g); have BX3 := Lib.hid (BX2.out.kept g); have BY3 := Lib.hid (BY2.out.kept g); have TW := Lib.hid True.intro; clear g)
        | refine wpList_loadC (off := 0) (p := X) aggKm rfl (.tmp 2) rfl BX1.out (by rw [List.drop_zero]; exact List.take_of_length_le (by rw [XL.out]; exact Nat.le_refl _)) (by rw [XL.out]; omega) (by first | rfl | go_simp) ?_
        | refine wpList_loadCg (off := 0) (p := Y) aggKm (by first | rfl | go_simp) (.tmp 3) rfl BY2.out (by rw [List.drop_zero]; exact List.take_of_length_le (by rw [YL.out]; exact Nat.le_refl _)) (by rw [YL.out]; omega) (by first | rfl | go_simp) ?_
        | refine wpList_loadC (off := 0) (p := X) aggKm rfl (.tmp 2) rfl BX3.out (by rw [List.drop_zero]; exact List.take_of_length_le (by rw [XL.out]; exact Nat.le_refl _)) (by rw [XL.out]; omega) (by first | rfl | go_simp) ?_
        | (go_at_call 31; have hx := TW; clear hx; rw [← HX.out]; refine (kwrite_any a T tc S sc w.heap.size _ (HM.out.below (below_of_none G3.out)) (HKa.out.kept G3.out (Nat.le_refl _)) G3.out.size HNa.out HLa.out).mono ?_; rw [HX.out]; rintro e w4 ⟨g, h⟩; rw [HOa.out] at h; rw [if_pos rfl] at h; obtain ⟨v, rfl, ba⟩ := h; obtain ⟨Aa, ca, rfl, r⟩ := ba; rw [HBa.out] at r; rw [HBa.out, HLNa.out]; have Ra4 := Lib.hid r; clear r; have G4 := Lib.hid (grown_trans' G3.out g); have BX4 := Lib.hid (BX3.out.kept g); have BY4 := Lib.hid (BY3.out.kept g); clear TW; clear g)
        | refine wpList_loadC (off := 0) (p := Y) aggKm rfl (.tmp 3) rfl BY4.out (by rw [List.drop_zero]; exact List.take_of_length_le (by rw [YL.out]; exact Nat.le_refl _)) (by rw [YL.out]; omega) (by first | rfl | go_simp) ?_
        | (go_at_call 31; rw [← HY.out]; refine (kwrite_any b T2 tc2 S2 sc2 w.heap.size _ (HM.out.below (below_of_none G4.out)) (HKb.out.kept G4.out (Nat.le_refl _)) G4.out.size HNb.out HLb.out).mono ?_; rw [HY.out]; rintro e w5 ⟨g, h⟩; rw [HOb.out] at h; rw [if_neg (by simp)] at h; subst h; have G5 := Lib.hid (grown_trans' G4.out g); have BX5 := Lib.hid (BX4.out.kept g); have BY5 := Lib.hid (BY4.out.kept g); have Ra5 := Lib.hid (Ra4.out.keptB g); clear g))
      have GD := Lib.hid (grown_drew G5.out)
      refine heldb_begin w5.drew.heap.size (by kernel_rfl) (fun hS1 => ?_)
      have GZ := Lib.hid (World.grownBy.refl w5.drew none)
      generalize w5.drew = wd at *
      refine heldb_take (i := 0) (d := some 27) (v := ?vqp3z7x1) (by assumption) rfl rfl (by kernel_rfl) (fun _ _ _ h => h) ?yqp3z7x1 ?_; case yqp3z7x1 => (refine Or.inl ⟨rfl, fun wx hS => ?_⟩; go_simp; try with_reducible rfl)
      try simp only [Act.put, List.setIfInBounds_toArray, List.set_cons_zero, List.set_cons_succ]
      refine heldb_take (i := 1) (d := some 28) (v := ?vqp3z7x2) (by assumption) rfl rfl (by kernel_rfl) (fun _ _ _ h => h) ?yqp3z7x2 ?_; case yqp3z7x2 => (refine Or.inl ⟨rfl, fun wx hS => ?_⟩; go_simp; try with_reducible rfl)
      try simp only [Act.put, List.setIfInBounds_toArray, List.set_cons_zero, List.set_cons_succ]
      refine heldb_take (i := 2) (d := some 29) (v := ?vqp3z7x3) (by assumption) rfl rfl (by kernel_rfl) (fun _ _ _ h => h) ?yqp3z7x3 ?_; case yqp3z7x3 => (refine Or.inl ⟨rfl, fun wx hS => ?_⟩; go_simp; try with_reducible rfl)
      try simp only [Act.put, List.setIfInBounds_toArray, List.set_cons_zero, List.set_cons_succ]
      first | refine heldb_skip (i := 3) (d := some 30) (by assumption) rfl rfl (by kernel_rfl) (fun _ _ _ h => h) rfl ?_ | (refine heldb_take (i := 3) (d := some 30) (v := ?vqp3z7x4) (by assumption) rfl rfl (by kernel_rfl) (fun _ _ _ h => h) ?yqp3z7x4 ?_; case yqp3z7x4 => (refine Or.inl ⟨rfl, fun wx hS => ?_⟩; go_simp; try with_reducible rfl))
      try simp only [Act.put, List.setIfInBounds_toArray, List.set_cons_zero, List.set_cons_succ]
      first | refine heldb_skip (i := 4) (d := some 31) (by assumption) rfl rfl (by kernel_rfl) (fun _ _ _ h => h) rfl ?_ | (refine heldb_take (i := 4) (d := some 31) (v := ?vqp3z7x5) (by assumption) rfl rfl (by kernel_rfl) (fun _ _ _ h => h) ?yqp3z7x5 ?_; case yqp3z7x5 => (refine Or.inl ⟨rfl, fun wx hS => ?_⟩; go_simp; try with_reducible rfl))
      try simp only [Act.put, List.setIfInBounds_toArray, List.set_cons_zero, List.set_cons_succ]
      refine heldb_take (i := 5) (d := some 32) (v := ?vqp3z7x6) (by assumption) rfl rfl (by kernel_rfl) (fun _ _ _ h => h) ?yqp3z7x6 ?_; case yqp3z7x6 => (refine Or.inl ⟨rfl, fun wx hS => ?_⟩; go_simp; try with_reducible rfl)
      try simp only [Act.put, List.setIfInBounds_toArray, List.set_cons_zero, List.set_cons_succ]
      refine heldb_take (i := 6) (d := some 33) (v := ?vqp3z7x7) (by assumption) rfl rfl (by kernel_rfl) (fun _ _ _ h => h) ?yqp3z7x7 ?_; case yqp3z7x7 => (refine Or.inl ⟨rfl, fun wx hS => ?_⟩; go_simp; try with_reducible rfl)
      try simp only [Act.put, List.setIfInBounds_toArray, List.set_cons_zero, List.set_cons_succ]
      first | refine heldb_skip (i := 7) (d := some 34) (by assumption) rfl rfl (by kernel_rfl) (fun _ _ _ h => h) rfl ?_ | (refine heldb_take (i := 7) (d := some 34) (v := ?vqp3z7x8) (by assumption) rfl rfl (by kernel_rfl) (fun _ _ _ h => h) ?yqp3z7x8 ?_; case yqp3z7x8 => (refine Or.inl ⟨rfl, fun wx hS => ?_⟩; go_simp; try with_reducible rfl))
      try simp only [Act.put, List.setIfInBounds_toArray, List.set_cons_zero, List.set_cons_succ]
      first | refine heldb_skip (i := 8) (d := some 35) (by assumption) rfl rfl (by kernel_rfl) (fun _ _ _ h => h) rfl ?_ | (refine heldb_take (i := 8) (d := some 35) (v := ?vqp3z7x9) (by assumption) rfl rfl (by kernel_rfl) (fun _ _ _ h => h) ?yqp3z7x9 ?_; case yqp3z7x9 => (refine Or.inl ⟨rfl, fun wx hS => ?_⟩; go_simp; try with_reducible rfl))
      try simp only [Act.put, List.setIfInBounds_toArray, List.set_cons_zero, List.set_cons_succ]
      first | refine heldb_skip (i := 9) (d := some 36) (by assumption) rfl rfl (by kernel_rfl) (fun _ _ _ h => h) rfl ?_ | (refine heldb_take (i := 9) (d := some 36) (v := ?vqp3z7x10) (by assumption) rfl rfl (by kernel_rfl) (fun _ _ _ h => h) ?yqp3z7x10 ?_; case yqp3z7x10 => (refine Or.inl ⟨rfl, fun wx hS => ?_⟩; go_simp; try with_reducible rfl))
      try simp only [Act.put, List.setIfInBounds_toArray, List.set_cons_zero, List.set_cons_succ]
      first | refine heldb_skip (i := 10) (d := some 37) (by assumption) rfl rfl (by kernel_rfl) (fun _ _ _ h => h) rfl ?_ | (refine heldb_take (i := 10) (d := some 37) (v := ?vqp3z7x11) (by assumption) rfl rfl (by kernel_rfl) (fun _ _ _ h => h) ?yqp3z7x11 ?_; case yqp3z7x11 => (refine Or.inl ⟨rfl, fun wx hS => ?_⟩; go_simp; try with_reducible rfl))
      try simp only [Act.put, List.setIfInBounds_toArray, List.set_cons_zero, List.set_cons_succ]
      first | refine heldb_skip (i := 11) (d := some 38) (by assumption) rfl rfl (by kernel_rfl) (fun _ _ _ h => h) rfl ?_ | (refine heldb_take (i := 11) (d := some 38) (v := ?vqp3z7x12) (by assumption) rfl rfl (by kernel_rfl) (fun _ _ _ h => h) ?yqp3z7x12 ?_; case yqp3z7x12 => (refine Or.inl ⟨rfl, fun wx hS => ?_⟩; go_simp; try with_reducible rfl))
      try simp only [Act.put, List.setIfInBounds_toArray, List.set_cons_zero, List.set_cons_succ]
      first | refine heldb_skip (i := 12) (d := some 39) (by assumption) rfl rfl (by kernel_rfl) (fun _ _ _ h => h) rfl ?_ | (refine heldb_take (i := 12) (d := some 39) (v := ?vqp3z7x13) (by assumption) rfl rfl (by kernel_rfl) (fun _ _ _ h => h) ?yqp3z7x13 ?_; case yqp3z7x13 => (refine Or.inl ⟨rfl, fun wx hS => ?_⟩; go_simp; try with_reducible rfl))
      try simp only [Act.put, List.setIfInBounds_toArray, List.set_cons_zero, List.set_cons_succ]
      first | refine heldb_skip (i := 13) (d := some 40) (by assumption) rfl rfl (by kernel_rfl) (fun _ _ _ h => h) rfl ?_ | (refine heldb_take (i := 13) (d := some 40) (v := ?vqp3z7x14) (by assumption) rfl rfl (by kernel_rfl) (fun _ _ _ h => h) ?yqp3z7x14 ?_; case yqp3z7x14 => (refine Or.inl ⟨rfl, fun wx hS => ?_⟩; go_simp; try with_reducible rfl))
      try simp only [Act.put, List.setIfInBounds_toArray, List.set_cons_zero, List.set_cons_succ]
      first | refine heldb_skip (i := 14) (d := some 41) (by assumption) rfl rfl (by kernel_rfl) (fun _ _ _ h => h) rfl ?_ | (refine heldb_take (i := 14) (d := some 41) (v := ?vqp3z7x15) (by assumption) rfl rfl (by kernel_rfl) (fun _ _ _ h => h) ?yqp3z7x15 ?_; case yqp3z7x15 => (refine Or.inl ⟨rfl, fun wx hS => ?_⟩; go_simp; try with_reducible rfl))
      try simp only [Act.put, List.setIfInBounds_toArray, List.set_cons_zero, List.set_cons_succ]
      first | refine heldb_skip (i := 15) (d := some 42) (by assumption) rfl rfl (by kernel_rfl) (fun _ _ _ h => h) rfl ?_ | (refine heldb_take (i := 15) (d := some 42) (v := ?vqp3z7x16) (by assumption) rfl rfl (by kernel_rfl) (fun _ _ _ h => h) ?yqp3z7x16 ?_; case yqp3z7x16 => (refine Or.inl ⟨rfl, fun wx hS => ?_⟩; go_simp; try with_reducible rfl))
      try simp only [Act.put, List.setIfInBounds_toArray, List.set_cons_zero, List.set_cons_succ]
      refine heldb_take (i := 16) (d := some 43) (v := ?vqp3z7x17) (by assumption) rfl rfl (by kernel_rfl) (fun _ _ _ h => h) ?yqp3z7x17 ?_; case yqp3z7x17 => (refine Or.inl ⟨rfl, fun wx hS => ?_⟩; go_simp; try with_reducible rfl)
      try simp only [Act.put, List.setIfInBounds_toArray, List.set_cons_zero, List.set_cons_succ]
      refine heldb_take (i := 17) (d := some 4) (v := ?vqp3z7x18) (by assumption) rfl rfl (by kernel_rfl) (fun _ _ _ h => h) ?yqp3z7x18 ?_; case yqp3z7x18 => (refine Or.inl ⟨rfl, fun wx hS => ?_⟩; go_simp; try with_reducible rfl)
      try simp only [Act.put, List.setIfInBounds_toArray, List.set_cons_zero, List.set_cons_succ]
      refine held_end (by kernel_rfl) ?_ _
      go_wp2
      go_ret
      exact ⟨rfl, below_of_none (grown_trans' GD.out GZ.out)⟩
    | true =>
      have HQ := Lib.hid (show decide (La = Lb) = sm by
        have h1 := bytesK_same HLa.out HLb.out IA.out IB.out HOa.out HOb.out
        rw [HBa.out, HBb.out, HSM.out] at h1
        exact h1)
      go_enter Tryd.func9, Tryd.ntmps9
      go_wp2_with (first
        | (go_at_call 29; refine (kspeaks_any _ (HM.out.below (below_of_none G0.out))).mono ?_; rintro e w1 ⟨rfl, g⟩; have G1 := Lib.hid (grown_trans' G0.out g); have BX1 := Lib.hid (BX0.out.kept g); have BY1 := Lib.hid (BY0.out.kept g); have TA := Lib.hid True.intro; clear g)
        | (go_at_call 30; have hx := TA; clear hx; rw [← HX.out]; refine (great_k a T tc S sc _).mono ?_; rw [HX.out, HGA.out]; rintro e w2 ⟨rfl, g⟩; have G2 := Lib.hid (grown_trans' G1.out g); have BX2 := Lib.hid (BX1.out.kept g); have BY2 := Lib.hid (BY1.out.kept g); clear TA g)
        | (go_at_call 30; rw [← HY.out]; refine (great_k b T2 tc2 S2 sc2 _).mono ?_; rw [HY.out, HGB.out]; rintro e w3 ⟨rfl, g⟩; have G3 := Lib.hid (grown_trans' G2.out g); have BX3 := Lib.hid (BX2.out.kept g); have BY3 := Lib.hid (BY2.out.kept g); have TW := Lib.hid True.intro; clear g)
        | refine wpList_loadC (off := 0) (p := X) aggKm rfl (.tmp 2) rfl BX1.out (by rw [List.drop_zero]; exact List.take_of_length_le (by rw [XL.out]; exact Nat.le_refl _)) (by rw [XL.out]; omega) (by first | rfl | go_simp) ?_
        | refine wpList_loadCg (off := 0) (p := Y) aggKm (by first | rfl | go_simp) (.tmp 3) rfl BY2.out (by rw [List.drop_zero]; exact List.take_of_length_le (by rw [YL.out]; exact Nat.le_refl _)) (by rw [YL.out]; omega) (by first | rfl | go_simp) ?_
        | refine wpList_loadC (off := 0) (p := X) aggKm rfl (.tmp 2) rfl BX3.out (by rw [List.drop_zero]; exact List.take_of_length_le (by rw [XL.out]; exact Nat.le_refl _)) (by rw [XL.out]; omega) (by first | rfl | go_simp) ?_
        | (go_at_call 31; have hx := TW; clear hx; rw [← HX.out]; refine (kwrite_any a T tc S sc w.heap.size _ (HM.out.below (below_of_none G3.out)) (HKa.out.kept G3.out (Nat.le_refl _)) G3.out.size HNa.out HLa.out).mono ?_; rw [HX.out]; rintro e w4 ⟨g, h⟩; rw [HOa.out] at h; rw [if_pos rfl] at h; obtain ⟨v, rfl, ba⟩ := h; obtain ⟨Aa, ca, rfl, r⟩ := ba; rw [HBa.out] at r; rw [HBa.out, HLNa.out]; have Ra4 := Lib.hid r; clear r; have G4 := Lib.hid (grown_trans' G3.out g); have BX4 := Lib.hid (BX3.out.kept g); have BY4 := Lib.hid (BY3.out.kept g); clear TW; clear g)
        | refine wpList_loadC (off := 0) (p := Y) aggKm rfl (.tmp 3) rfl BY4.out (by rw [List.drop_zero]; exact List.take_of_length_le (by rw [YL.out]; exact Nat.le_refl _)) (by rw [YL.out]; omega) (by first | rfl | go_simp) ?_
        | (go_at_call 31; rw [← HY.out]; refine (kwrite_any b T2 tc2 S2 sc2 w.heap.size _ (HM.out.below (below_of_none G4.out)) (HKb.out.kept G4.out (Nat.le_refl _)) G4.out.size HNb.out HLb.out).mono ?_; rw [HY.out]; rintro e w5 ⟨g, h⟩; rw [HOb.out] at h; rw [if_pos rfl] at h; obtain ⟨v, rfl, bb⟩ := h; obtain ⟨Ab, cb, rfl, r⟩ := bb; rw [HBb.out] at r; rw [HBb.out, HLNb.out]; have Rb5 := Lib.hid r; clear r; have G5 := Lib.hid (grown_trans' G4.out g); have BX5 := Lib.hid (BX4.out.kept g); have BY5 := Lib.hid (BY4.out.kept g); have Ra5 := Lib.hid (Ra4.out.keptB g); clear g))
      have q1 := fun wx (h : Below w5.drew.heap.size w5.drew wx) => str_from byteT Tryd.underlying9 (show RB w5.drew w5.drew.heap.size Aa La ca from Ra5.out) (Nat.le_refl _) wx h
      have q2 := fun wx (h : Below w5.drew.heap.size w5.drew wx) => str_from byteT Tryd.underlying9 (show RB w5.drew w5.drew.heap.size Ab Lb cb from Rb5.out) (Nat.le_refl _) wx h
      rw [HLNa.out] at q1
      rw [HLNb.out] at q2
      cases sm with
      | true =>
        have heq := of_decide_eq_true HQ.out
        subst heq
        have GD := Lib.hid (grown_drew G5.out)
        have DX := Lib.hid BX5.out.drew
        have DY := Lib.hid BY5.out.drew
        refine heldb_begin w5.drew.heap.size (by kernel_rfl) (fun hS1 => ?_)
        have GZ := Lib.hid (World.grownBy.refl w5.drew none)
        generalize w5.drew = wd at *
        refine heldb_take (i := 0) (d := some 27) (v := ?vqp4z7x1) (by assumption) rfl rfl (by kernel_rfl) (fun _ _ _ h => h) ?yqp4z7x1 ?_; case yqp4z7x1 => (refine Or.inl ⟨rfl, fun wx hS => ?_⟩; go_simp; try with_reducible rfl)
        try simp only [Act.put, List.setIfInBounds_toArray, List.set_cons_zero, List.set_cons_succ]
        refine heldb_take (i := 1) (d := some 28) (v := ?vqp4z7x2) (by assumption) rfl rfl (by kernel_rfl) (fun _ _ _ h => h) ?yqp4z7x2 ?_; case yqp4z7x2 => (refine Or.inl ⟨rfl, fun wx hS => ?_⟩; go_simp; try with_reducible rfl)
        try simp only [Act.put, List.setIfInBounds_toArray, List.set_cons_zero, List.set_cons_succ]
        refine heldb_take (i := 2) (d := some 29) (v := ?vqp4z7x3) (by assumption) rfl rfl (by kernel_rfl) (fun _ _ _ h => h) ?yqp4z7x3 ?_; case yqp4z7x3 => (refine Or.inl ⟨rfl, fun wx hS => ?_⟩; go_simp; try with_reducible rfl)
        try simp only [Act.put, List.setIfInBounds_toArray, List.set_cons_zero, List.set_cons_succ]
        first | refine heldb_skip (i := 3) (d := some 30) (by assumption) rfl rfl (by kernel_rfl) (fun _ _ _ h => h) rfl ?_ | (refine heldb_take (i := 3) (d := some 30) (v := ?vqp4z7x4) (by assumption) rfl rfl (by kernel_rfl) (fun _ _ _ h => h) ?yqp4z7x4 ?_; case yqp4z7x4 => (refine Or.inl ⟨rfl, fun wx hS => ?_⟩; go_simp; try with_reducible rfl))
        try simp only [Act.put, List.setIfInBounds_toArray, List.set_cons_zero, List.set_cons_succ]
        first | refine heldb_skip (i := 4) (d := some 31) (by assumption) rfl rfl (by kernel_rfl) (fun _ _ _ h => h) rfl ?_ | (refine heldb_take (i := 4) (d := some 31) (v := ?vqp4z7x5) (by assumption) rfl rfl (by kernel_rfl) (fun _ _ _ h => h) ?yqp4z7x5 ?_; case yqp4z7x5 => (refine Or.inl ⟨rfl, fun wx hS => ?_⟩; go_simp; try with_reducible rfl))
        try simp only [Act.put, List.setIfInBounds_toArray, List.set_cons_zero, List.set_cons_succ]
        refine heldb_take (i := 5) (d := some 32) (v := ?vqp4z7x6) (by assumption) rfl rfl (by kernel_rfl) (fun _ _ _ h => h) ?yqp4z7x6 ?_; case yqp4z7x6 => (refine Or.inl ⟨rfl, fun wx hS => ?_⟩; go_simp; try with_reducible rfl)
        try simp only [Act.put, List.setIfInBounds_toArray, List.set_cons_zero, List.set_cons_succ]
        refine heldb_take (i := 6) (d := some 33) (v := ?vqp4z7x7) (by assumption) rfl rfl (by kernel_rfl) (fun _ _ _ h => h) ?yqp4z7x7 ?_; case yqp4z7x7 => (refine Or.inl ⟨rfl, fun wx hS => ?_⟩; go_simp; try with_reducible rfl)
        try simp only [Act.put, List.setIfInBounds_toArray, List.set_cons_zero, List.set_cons_succ]
        first | refine heldb_skip (i := 7) (d := some 34) (by assumption) rfl rfl (by kernel_rfl) (fun _ _ _ h => h) rfl ?_ | (refine heldb_take (i := 7) (d := some 34) (v := ?vqp4z7x8) (by assumption) rfl rfl (by kernel_rfl) (fun _ _ _ h => h) ?yqp4z7x8 ?_; case yqp4z7x8 => (refine Or.inl ⟨rfl, fun wx hS => ?_⟩; go_simp; try with_reducible rfl))
        try simp only [Act.put, List.setIfInBounds_toArray, List.set_cons_zero, List.set_cons_succ]
        refine heldb_take (i := 8) (d := some 35) (v := _) (by assumption) rfl rfl (by kernel_rfl) (fun _ _ _ h => h) (yields_conv (.tmp 34) rfl rfl rfl q1) ?_
        try simp only [Act.put, List.setIfInBounds_toArray, List.set_cons_zero, List.set_cons_succ]
        first | refine heldb_skip (i := 9) (d := some 36) (by assumption) rfl rfl (by kernel_rfl) (fun _ _ _ h => h) rfl ?_ | (refine heldb_take (i := 9) (d := some 36) (v := ?vqp4z7x10) (by assumption) rfl rfl (by kernel_rfl) (fun _ _ _ h => h) ?yqp4z7x10 ?_; case yqp4z7x10 => (refine Or.inl ⟨rfl, fun wx hS => ?_⟩; go_simp; try with_reducible rfl))
        try simp only [Act.put, List.setIfInBounds_toArray, List.set_cons_zero, List.set_cons_succ]
        refine heldb_take (i := 10) (d := some 37) (v := _) (by assumption) rfl rfl (by kernel_rfl) (fun _ _ _ h => h) (yields_conv (.tmp 36) rfl rfl rfl q2) ?_
        try simp only [Act.put, List.setIfInBounds_toArray, List.set_cons_zero, List.set_cons_succ]
        first | refine heldb_skip (i := 11) (d := some 38) (by assumption) rfl rfl (by kernel_rfl) (fun _ _ _ h => h) rfl ?_ | (refine heldb_take (i := 11) (d := some 38) (v := ?vqp4z7x12) (by assumption) rfl rfl (by kernel_rfl) (fun _ _ _ h => h) ?yqp4z7x12 ?_; case yqp4z7x12 => (refine Or.inl ⟨rfl, fun wx hS => ?_⟩; go_simp; try with_reducible rfl))
        try simp only [Act.put, List.setIfInBounds_toArray, List.set_cons_zero, List.set_cons_succ]
        refine heldb_take (i := 12) (d := some 39) (v := _) (by assumption) rfl rfl (by kernel_rfl) (fun _ _ _ h => h) (yields_loadC (p := X) (off := 0) aggKm (.tmp 2) rfl rfl (fun wx hx => DX.out.below hx DX.out.lt) (by rw [List.drop_zero]; exact List.take_of_length_le (by rw [XL.out]; exact Nat.le_refl _)) (by rw [XL.out]; omega) rfl) ?_
        try simp only [Act.put, List.setIfInBounds_toArray, List.set_cons_zero, List.set_cons_succ]
        refine heldb_take (i := 13) (d := some 40) (v := _) (by assumption) rfl rfl (by kernel_rfl) (fun _ _ _ h => h) (yields_loadC (p := Y) (off := 0) aggKm (.tmp 3) rfl rfl (fun wx hx => DY.out.below hx DY.out.lt) (by rw [List.drop_zero]; exact List.take_of_length_le (by rw [YL.out]; exact Nat.le_refl _)) (by rw [YL.out]; omega) rfl) ?_
        try simp only [Act.put, List.setIfInBounds_toArray, List.set_cons_zero, List.set_cons_succ]
        refine heldb_one (i := 14) rfl (by kernel_rfl) rfl (fun K hK => ?_)
        go_simp
        rw [← HX.out, ← HY.out]
        refine (same_k a b T tc S sc T2 tc2 S2 sc2 w.heap.size _ (HKa.out.kept (grown_trans' GD.out GZ.out) (Nat.le_refl _)) (HKb.out.kept (grown_trans' GD.out GZ.out) (Nat.le_refl _)) (Nat.le_trans GD.out.size GZ.out.size)).mono ?_
        rintro e wp4z7x15 ⟨rfl, gp4z7x16⟩
        rw [HX.out, HY.out, HSM.out]
        have Gp4z7x17 := Lib.hid (grown_trans' GZ.out gp4z7x16)
        have hb := below_of_none Gp4z7x17.out
        refine hK.out _ _ hb (fun hSp4z7x18 => ?_)
        clear hb hK K
        try simp only [Act.put, List.setIfInBounds_toArray, List.set_cons_zero, List.set_cons_succ]
        clear gp4z7x16
        first | refine heldb_skip (i := 15) (d := some 42) (by assumption) rfl rfl (by kernel_rfl) (fun _ _ _ h => h) rfl ?_ | (refine heldb_take (i := 15) (d := some 42) (v := ?vqp4z7x19) (by assumption) rfl rfl (by kernel_rfl) (fun _ _ _ h => h) ?yqp4z7x19 ?_; case yqp4z7x19 => (refine Or.inl ⟨rfl, fun wx hS => ?_⟩; go_simp; try with_reducible rfl))
        try simp only [Act.put, List.setIfInBounds_toArray, List.set_cons_zero, List.set_cons_succ]
        refine heldb_take (i := 16) (d := some 43) (v := ?vqp4z7x20) (by assumption) rfl rfl (by kernel_rfl) (fun _ _ _ h => h) ?yqp4z7x20 ?_; case yqp4z7x20 => (refine Or.inl ⟨rfl, fun wx hS => ?_⟩; go_simp; try with_reducible rfl)
        try simp only [Act.put, List.setIfInBounds_toArray, List.set_cons_zero, List.set_cons_succ]
        refine heldb_take (i := 17) (d := some 4) (v := ?vqp4z7x21) (by assumption) rfl rfl (by kernel_rfl) (fun _ _ _ h => h) ?yqp4z7x21 ?_; case yqp4z7x21 => (refine Or.inl ⟨rfl, fun wx hS => ?_⟩; go_simp; try with_reducible rfl)
        try simp only [Act.put, List.setIfInBounds_toArray, List.set_cons_zero, List.set_cons_succ]
        refine held_end (by kernel_rfl) ?_ _
        go_wp2
        go_ret
        exact ⟨rfl, below_of_none (grown_trans' GD.out Gp4z7x17.out)⟩
      | false =>
        have hne := of_decide_eq_false HQ.out
        have hne3 : (La == Lb) = false := by simpa using hne
        have hne2 := str_ne (a := ⟨La.toArray⟩) (b := ⟨Lb.toArray⟩) (fun e => hne (ba_of_list e))
        have GD := Lib.hid (grown_drew G5.out)
        have DX := Lib.hid BX5.out.drew
        have DY := Lib.hid BY5.out.drew
        refine heldb_begin w5.drew.heap.size (by kernel_rfl) (fun hS1 => ?_)
        have GZ := Lib.hid (World.grownBy.refl w5.drew none)
        generalize w5.drew = wd at *
        refine heldb_take (i := 0) (d := some 27) (v := ?vqp5z7x1) (by assumption) rfl rfl (by kernel_rfl) (fun _ _ _ h => h) ?yqp5z7x1 ?_; case yqp5z7x1 => (refine Or.inl ⟨rfl, fun wx hS => ?_⟩; go_simp; try with_reducible rfl)
        try simp only [Act.put, List.setIfInBounds_toArray, List.set_cons_zero, List.set_cons_succ]
        refine heldb_take (i := 1) (d := some 28) (v := ?vqp5z7x2) (by assumption) rfl rfl (by kernel_rfl) (fun _ _ _ h => h) ?yqp5z7x2 ?_; case yqp5z7x2 => (refine Or.inl ⟨rfl, fun wx hS => ?_⟩; go_simp; try with_reducible rfl)
        try simp only [Act.put, List.setIfInBounds_toArray, List.set_cons_zero, List.set_cons_succ]
        refine heldb_take (i := 2) (d := some 29) (v := ?vqp5z7x3) (by assumption) rfl rfl (by kernel_rfl) (fun _ _ _ h => h) ?yqp5z7x3 ?_; case yqp5z7x3 => (refine Or.inl ⟨rfl, fun wx hS => ?_⟩; go_simp; try with_reducible rfl)
        try simp only [Act.put, List.setIfInBounds_toArray, List.set_cons_zero, List.set_cons_succ]
        first | refine heldb_skip (i := 3) (d := some 30) (by assumption) rfl rfl (by kernel_rfl) (fun _ _ _ h => h) rfl ?_ | (refine heldb_take (i := 3) (d := some 30) (v := ?vqp5z7x4) (by assumption) rfl rfl (by kernel_rfl) (fun _ _ _ h => h) ?yqp5z7x4 ?_; case yqp5z7x4 => (refine Or.inl ⟨rfl, fun wx hS => ?_⟩; go_simp; try with_reducible rfl))
        try simp only [Act.put, List.setIfInBounds_toArray, List.set_cons_zero, List.set_cons_succ]
        first | refine heldb_skip (i := 4) (d := some 31) (by assumption) rfl rfl (by kernel_rfl) (fun _ _ _ h => h) rfl ?_ | (refine heldb_take (i := 4) (d := some 31) (v := ?vqp5z7x5) (by assumption) rfl rfl (by kernel_rfl) (fun _ _ _ h => h) ?yqp5z7x5 ?_; case yqp5z7x5 => (refine Or.inl ⟨rfl, fun wx hS => ?_⟩; go_simp; try with_reducible rfl))
        try simp only [Act.put, List.setIfInBounds_toArray, List.set_cons_zero, List.set_cons_succ]
        refine heldb_take (i := 5) (d := some 32) (v := ?vqp5z7x6) (by assumption) rfl rfl (by kernel_rfl) (fun _ _ _ h => h) ?yqp5z7x6 ?_; case yqp5z7x6 => (refine Or.inl ⟨rfl, fun wx hS => ?_⟩; go_simp; try with_reducible rfl)
        try simp only [Act.put, List.setIfInBounds_toArray, List.set_cons_zero, List.set_cons_succ]
        refine heldb_take (i := 6) (d := some 33) (v := ?vqp5z7x7) (by assumption) rfl rfl (by kernel_rfl) (fun _ _ _ h => h) ?yqp5z7x7 ?_; case yqp5z7x7 => (refine Or.inl ⟨rfl, fun wx hS => ?_⟩; go_simp; try with_reducible rfl)
        try simp only [Act.put, List.setIfInBounds_toArray, List.set_cons_zero, List.set_cons_succ]
        first | refine heldb_skip (i := 7) (d := some 34) (by assumption) rfl rfl (by kernel_rfl) (fun _ _ _ h => h) rfl ?_ | (refine heldb_take (i := 7) (d := some 34) (v := ?vqp5z7x8) (by assumption) rfl rfl (by kernel_rfl) (fun _ _ _ h => h) ?yqp5z7x8 ?_; case yqp5z7x8 => (refine Or.inl ⟨rfl, fun wx hS => ?_⟩; go_simp; try with_reducible rfl))
        try simp only [Act.put, List.setIfInBounds_toArray, List.set_cons_zero, List.set_cons_succ]
        refine heldb_take (i := 8) (d := some 35) (v := _) (by assumption) rfl rfl (by kernel_rfl) (fun _ _ _ h => h) (yields_conv (.tmp 34) rfl rfl rfl q1) ?_
        try simp only [Act.put, List.setIfInBounds_toArray, List.set_cons_zero, List.set_cons_succ]
        first | refine heldb_skip (i := 9) (d := some 36) (by assumption) rfl rfl (by kernel_rfl) (fun _ _ _ h => h) rfl ?_ | (refine heldb_take (i := 9) (d := some 36) (v := ?vqp5z7x10) (by assumption) rfl rfl (by kernel_rfl) (fun _ _ _ h => h) ?yqp5z7x10 ?_; case yqp5z7x10 => (refine Or.inl ⟨rfl, fun wx hS => ?_⟩; go_simp; try with_reducible rfl))
        try simp only [Act.put, List.setIfInBounds_toArray, List.set_cons_zero, List.set_cons_succ]
        refine heldb_take (i := 10) (d := some 37) (v := _) (by assumption) rfl rfl (by kernel_rfl) (fun _ _ _ h => h) (yields_conv (.tmp 36) rfl rfl rfl q2) ?_
        try simp only [Act.put, List.setIfInBounds_toArray, List.set_cons_zero, List.set_cons_succ]
        first | refine heldb_skip (i := 11) (d := some 38) (by assumption) rfl rfl (by kernel_rfl) (fun _ _ _ h => h) rfl ?_ | (refine heldb_take (i := 11) (d := some 38) (v := ?vqp5z7x12) (by assumption) rfl rfl (by kernel_rfl) (fun _ _ _ h => h) ?yqp5z7x12 ?_; case yqp5z7x12 => (refine Or.inl ⟨rfl, fun wx hS => ?_⟩; go_simp; try with_reducible rfl))
        try simp only [Act.put, List.setIfInBounds_toArray, List.set_cons_zero, List.set_cons_succ]
        refine heldb_take (i := 12) (d := some 39) (v := _) (by assumption) rfl rfl (by kernel_rfl) (fun _ _ _ h => h) (yields_loadC (p := X) (off := 0) aggKm (.tmp 2) rfl rfl (fun wx hx => DX.out.below hx DX.out.lt) (by rw [List.drop_zero]; exact List.take_of_length_le (by rw [XL.out]; exact Nat.le_refl _)) (by rw [XL.out]; omega) rfl) ?_
        try simp only [Act.put, List.setIfInBounds_toArray, List.set_cons_zero, List.set_cons_succ]
        refine heldb_take (i := 13) (d := some 40) (v := _) (by assumption) rfl rfl (by kernel_rfl) (fun _ _ _ h => h) (yields_loadC (p := Y) (off := 0) aggKm (.tmp 3) rfl rfl (fun wx hx => DY.out.below hx DY.out.lt) (by rw [List.drop_zero]; exact List.take_of_length_le (by rw [YL.out]; exact Nat.le_refl _)) (by rw [YL.out]; omega) rfl) ?_
        try simp only [Act.put, List.setIfInBounds_toArray, List.set_cons_zero, List.set_cons_succ]
        refine heldb_one (i := 14) rfl (by kernel_rfl) rfl (fun K hK => ?_)
        go_simp
        rw [← HX.out, ← HY.out]
        refine (same_k a b T tc S sc T2 tc2 S2 sc2 w.heap.size _ (HKa.out.kept (grown_trans' GD.out GZ.out) (Nat.le_refl _)) (HKb.out.kept (grown_trans' GD.out GZ.out) (Nat.le_refl _)) (Nat.le_trans GD.out.size GZ.out.size)).mono ?_
        rintro e wp5z7x15 ⟨rfl, gp5z7x16⟩
        rw [HX.out, HY.out, HSM.out]
        have Gp5z7x17 := Lib.hid (grown_trans' GZ.out gp5z7x16)
        have hb := below_of_none Gp5z7x17.out
        refine hK.out _ _ hb (fun hSp5z7x18 => ?_)
        clear hb hK K
        try simp only [Act.put, List.setIfInBounds_toArray, List.set_cons_zero, List.set_cons_succ]
        clear gp5z7x16
        first | refine heldb_skip (i := 15) (d := some 42) (by assumption) rfl rfl (by kernel_rfl) (fun _ _ _ h => h) rfl ?_ | (refine heldb_take (i := 15) (d := some 42) (v := ?vqp5z7x19) (by assumption) rfl rfl (by kernel_rfl) (fun _ _ _ h => h) ?yqp5z7x19 ?_; case yqp5z7x19 => (refine Or.inl ⟨rfl, fun wx hS => ?_⟩; go_simp; try with_reducible rfl))
        try simp only [Act.put, List.setIfInBounds_toArray, List.set_cons_zero, List.set_cons_succ]
        refine heldb_take (i := 16) (d := some 43) (v := ?vqp5z7x20) (by assumption) rfl rfl (by kernel_rfl) (fun _ _ _ h => h) ?yqp5z7x20 ?_; case yqp5z7x20 => (refine Or.inl ⟨rfl, fun wx hS => ?_⟩; go_simp; try with_reducible rfl)
        try simp only [Act.put, List.setIfInBounds_toArray, List.set_cons_zero, List.set_cons_succ]
        refine heldb_take (i := 17) (d := some 4) (v := ?vqp5z7x21) (by assumption) rfl rfl (by kernel_rfl) (fun _ _ _ h => h) ?yqp5z7x21 ?_; case yqp5z7x21 => (refine Or.inl ⟨rfl, fun wx hS => ?_⟩; go_simp; try with_reducible rfl)
        try simp only [Act.put, List.setIfInBounds_toArray, List.set_cons_zero, List.set_cons_succ]
        refine held_end (by kernel_rfl) ?_ _
        go_wp2
        go_ret
        exact ⟨rfl, below_of_none (grown_trans' GD.out Gp5z7x17.out)⟩
end Go.Proofs.YtnaoagiphehcaaaDoor
