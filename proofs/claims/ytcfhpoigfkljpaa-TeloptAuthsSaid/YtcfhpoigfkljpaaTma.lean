/- The walk of the document's Put. -/
import Derived.Test.YtcfhpoigfkljpaaTlk
namespace Go.Proofs.Ytcfhpoigfkljpaa
open Go.ChangeShapes Go.WideShapes Go.RowKit
set_option linter.unusedVariables false

theorem keepC {w wd : World} {p : Addr} {v : Value} (g : w.grownBy wd none) (h : w.cell? p = some v) : wd.cell? p = some v :=
  (World.cell?_of_block (g.block p.block (World.block_lt_of_cell? w p h) (fun e => by cases e))).trans h
/-- The list's element holds its data still. -/
def SP (gl k : Nat) (dv : Value) (x : World) : Prop := x.cell? ⟨gl, k * 4 + 3, none⟩ = some dv ∧ gl < x.heap.size
theorem SP.none_ {gl k : Nat} {dv : Value} {x y : World} (h : SP gl k dv x) (hg : x.grownBy y none) : SP gl k dv y := ⟨keepC hg h.1, Nat.lt_of_lt_of_le h.2 hg.size⟩
theorem SP.row {gl k : Nat} {dv : Value} {x y : World} {r : Option Nat} (h : SP gl k dv x) (hg : x.grownBy y r) (hr : r ≠ some gl) : SP gl k dv y :=
  ⟨(World.cell?_of_block (hg.block gl h.2 (fun e => hr e.symm))).trans h.1, Nat.lt_of_lt_of_le h.2 hg.size⟩
theorem putF_take (ts : List Tl) (k : Nat) (h : k < ts.length) : putF (ts.take (k + 1)) = join (putF (ts.take k)) ts[k] := by rw [List.take_succ_eq_append_getElem h, putF_snoc]

/-- What Put comes to. -/
def PutR (w w' : World) (bb : Nat) (ts : List Tl) (e : Ending) : Prop := ∃ v' vs', e = .returned v' ∧ OwnP w' w.heap.size bb vs' v' (putF ts) ∧ w.grownBy w' none
theorem four_at {w : World} {g k : Nat} {cs : List Value} {a b c d : Value} {t : TypeId} (h : CB w g t cs) (h0 : w.cell? ⟨g, k * 4, none⟩ = some a) (h1 : w.cell? ⟨g, k * 4 + 1, none⟩ = some b) (h2 : w.cell? ⟨g, k * 4 + 2, none⟩ = some c) (h3 : w.cell? ⟨g, k * 4 + 3, none⟩ = some d) :
    (cs.drop (k * 4)).take 4 = [a, b, c, d] ∧ k * 4 + 4 ≤ cs.length := by
  have e : ∀ i v, w.cell? ⟨g, i, none⟩ = some v → cs[i]? = some v := by
    intro i v hv
    rw [cell_of_row w g i _ t (0, 0) h, List.getElem?_toArray] at hv
    exact hv
  have e0 := e _ _ h0
  have e1 := e _ _ h1
  have e2 := e _ _ h2
  have e3 := e _ _ h3
  have hl := (List.getElem?_eq_some_iff.1 e3).1
  refine ⟨List.ext_getElem? (fun i => ?_), by omega⟩
  match i with
  | 0 => rw [List.getElem?_take_of_lt (by omega), List.getElem?_drop]; exact e0
  | 1 => rw [List.getElem?_take_of_lt (by omega), List.getElem?_drop]; exact e1
  | 2 => rw [List.getElem?_take_of_lt (by omega), List.getElem?_drop]; exact e2
  | 3 => rw [List.getElem?_take_of_lt (by omega), List.getElem?_drop]; exact e3
  | i + 4 => rw [List.getElem?_eq_none (by rw [List.length_take]; omega)]; simp
set_option maxRecDepth 20000 in
set_option maxHeartbeats 8000000 in
theorem put_any {w : World} {b bb : Nat} {vs : List Value} {v : Value} {ts : List Tl} (h : OwnP w b bb vs v ts) (hbb : bb ≤ w.heap.size) (hn : ts.length ≤ 1000000) (hs : sumD ts ≤ 1000000000000) :
    Calls Try.prog 16 #[v] w fun e w' => PutR w w' bb ts e := by
  obtain ⟨A, cap, rfl, -, hA, hA2⟩ := h.shape
  obtain ⟨n, hnn⟩ : ∃ n, ts.length = n := ⟨_, rfl⟩
  rw [hnn] at hA hA2 hn ⊢
  have H := Lib.hid h
  rw [hnn] at H
  have HN := Lib.hid hnn
  have HS := Lib.hid hs
  have HBB := Lib.hid hbb
  have HA1 := Lib.hid hA
  have HA2 := Lib.hid hA2
  have hni : (n : Int) ≤ 1000000 := by omega
  clear h hnn hs hbb hA hA2
  go_enter Try.func16, Try.ntmps16
  go_wp2
  have S0 := Lib.hid (OwnP.new0 w w.heap.size bb (Nat.le_refl _))
  go_loopw [3, 4] (fun s3 s4 wr => ∃ (k : Nat) (us : List Value), s4 = .int .i64 k ∧ k ≤ n ∧ OwnP wr w.heap.size bb us s3 (putF (ts.take k)) ∧ w.grownBy wr none) (fun _ s4 _ => n - (intOf s4).toNat)
  case atStart => exact ⟨0, [], rfl, Nat.zero_le _, S0.out, grown_alloc _ _ _⟩
  case round =>
    obtain ⟨k, us, rfl, hk, ho, hg⟩ := hrel
    by_cases hkn : k < n
    · have hki : (k : Int) < (n : Int) := by omega
      have hkt : k < ts.length := by rw [HN.out]; exact hkn
      obtain ⟨gl, hgl⟩ := HA2.out (by omega)
      obtain rfl := HA1.out gl hgl
      obtain ⟨t, ht⟩ : ∃ t, t = ts[k] := ⟨_, rfl⟩
      have ht' : ts[k]? = some t := by rw [ht]; exact List.getElem?_eq_getElem hkt
      obtain ⟨y, hy⟩ : ∃ y, vs[k]? = some y := ⟨_, List.getElem?_eq_getElem (by have := H.out.len; omega)⟩
      have HW := H.out.none_ hg
      obtain ⟨e00, e1, e2, e3⟩ := HW.cells_at ht' hy hgl
      have hd := HW.dat k t y ht' hy
      obtain ⟨D, dc, rfl, rd, -⟩ := hd.shape
      obtain ⟨dn, hdn⟩ : ∃ x, t.data.length = x := ⟨_, rfl⟩
      rw [hdn] at e3 hd
      have HGLT := Lib.hid (H.out.lt gl hgl).2
      obtain ⟨ps, hps⟩ : ∃ ps, putF (ts.take k) = ps := ⟨_, rfl⟩
      have HPT := Lib.hid (show putF (ts.take (k + 1)) = join ps t by rw [putF_take ts k hkt, hps, ht])
      have HPL := Lib.hid (show ps.length ≤ 1000000 by rw [← hps]; have := putF_length (ts.take k); rw [List.length_take] at this; omega)
      have HPS := Lib.hid (show sumD ps + dn ≤ 1000000000000 by
        rw [← hps, sumD_put, ← hdn, ht]
        have h1 : sumD (ts.take (k + 1)) ≤ sumD ts := by
          conv => rhs; rw [← List.take_append_drop (k + 1) ts, sumD_app]
          omega
        rw [List.take_succ_eq_append_getElem hkt, sumD_app] at h1
        have h2 : sumD [ts[k]] = ts[k].data.length := by simp [sumD]
        have := HS.out
        omega)
      rw [hps] at ho
      obtain ⟨A1, c1, rfl, -, hB1, hB2⟩ := ho.shape
      obtain ⟨p, hp⟩ : ∃ p, ps.length = p := ⟨_, rfl⟩
      have HP := Lib.hid hp
      rw [hp] at ho hB1 hB2 ⊢
      have HO := Lib.hid ho
      have GG := Lib.hid hg
      have HDD := Lib.hid hd
      have HRD := Lib.hid rd
      have HDN := Lib.hid hdn
      have HHB1 := Lib.hid hB1
      have HHB2 := Lib.hid hB2
      have HGLS := Lib.hid (show gl < wr.heap.size from Nat.lt_of_lt_of_le HGLT.out hg.size)
      have HE := Lib.hid (show wr.cell? ⟨gl, k * 4, none⟩ = some (.int .i64 t.kind) ∧ wr.cell? ⟨gl, k * 4 + 1, none⟩ = some (.int .i64 t.verb) ∧ wr.cell? ⟨gl, k * 4 + 2, none⟩ = some (.int .i64 t.opt) ∧ wr.cell? ⟨gl, k * 4 + 3, none⟩ = some (.slice D dn dc) from ⟨e00, e1, e2, e3⟩)
      have HLB := Lib.hid (HW.blk hgl)
      obtain ⟨tk, htk⟩ : ∃ x, t.kind = x := ⟨_, rfl⟩
      have HTK := Lib.hid htk
      have e0 : wr.cell? ⟨gl, k * 4, none⟩ = some (.int .i64 tk) := by rw [← htk]; exact HE.out.1
      clear ho hg hd rd hdn hps hp hB1 hB2 e00 e1 e2 e3 ht ht' hy HW hgl htk hkt
      by_cases hm : tk = 1 ∧ ps.getLast?.map Tl.kind = some 1
      · obtain ⟨h1, h2⟩ := hm
        obtain ⟨q, hq, hqk⟩ := Option.map_eq_some_iff.1 h2
        obtain ⟨X, rfl⟩ := List.getLast?_eq_some_iff.1 hq
        obtain ⟨us', u, rfl⟩ : ∃ a b, us = a ++ [b] := ⟨us.dropLast, us.getLast (by intro e; have := HO.out.len; rw [e] at this; simp at this), (List.dropLast_concat_getLast _).symm⟩
        obtain ⟨m, hxm⟩ : ∃ m, X.length = m := ⟨_, rfl⟩
        have hpm : p = m + 1 := by rw [← HP.out, List.length_append, hxm]; rfl
        subst hpm
        obtain ⟨g, hg⟩ := HHB2.out (by omega)
        obtain rfl := HHB1.out g hg
        have hus : us'.length = X.length := by have := HO.out.len; simpa using this
        obtain ⟨f0, -, -, f3⟩ := HO.out.cells_at (k := m) (t := q) (u := u) (by rw [← hxm]; simp) (by rw [← hxm, ← hus]; simp) hg
        have hu0 := HO.out.dat m q u (by rw [← hxm]; simp) (by rw [← hxm, ← hus]; simp)
        obtain ⟨U, uc, rfl, ru, -⟩ := hu0.shape
        obtain ⟨un, hun⟩ : ∃ x, q.data.length = x := ⟨_, rfl⟩
        rw [hun] at f3 hu0
        rw [hqk] at f0
        obtain ⟨cs, hcs, hcl, hbg⟩ := HO.out.blk hg
        have HSM := Lib.hid (show q.data.length + t.data.length ≤ 1000000000000 by have h0 := HPS.out; rw [sumD_app] at h0; have h3 : sumD [q] = q.data.length := (by simp [sumD]); rw [h3] at h0; have := HDN.out; omega)
        have hj : join (X ++ [q]) t = X ++ [{ q with data := q.data ++ t.data }] := by unfold join; simp [HTK.out.trans h1, hqk]
        rw [hj] at HPT
        have HUN := Lib.hid hun
        have HXM := Lib.hid hxm
        have HG := Lib.hid hg
        have HGB := Lib.hid hbg
        have HGL := Lib.hid (show gl < w.heap.size from HGLT.out)
        have HCL := Lib.hid (show m * 4 + 4 ≤ cs.length by rw [List.length_append, hxm] at hcl; simp at hcl; omega)
        have CG0 := Lib.hid hcs
        have RU0 := Lib.hid ru
        have hp0 : (0 : Int) < (m : Int) + 1 := by omega
        have hw1 : IntKind.i64.wrap ((m : Int) + 1 - 1) = (m : Int) := by have := HPL.out; rw [List.length_append, hxm] at this; simp [IntKind.wrap, IntKind.bits, IntKind.signed]; omega
        have hm0 : (0 : Int) ≤ (m : Int) := by omega
        have hmi : (m : Int) ≤ 1000000 := by have := HPL.out; rw [List.length_append, hxm] at this; simp at this; omega
        have hwm : IntKind.i64.wrap (m : Int) = (m : Int) := by simp [IntKind.wrap, IntKind.bits, IntKind.signed]; omega
        have hlt1 : (m : Int) < (m : Int) + 1 := by omega
        have e3 := HE.out.2.2.2
        subst h1
        clear h2 hq hqk hus hu0 hun hcs hcl hbg ru hj hxm hg
        go_wp2
        obtain ⟨wd, hwd⟩ : ∃ x, wr.drew = x := ⟨_, rfl⟩
        have GW := Lib.hid (show wr.grownBy wd none by rw [← hwd]; exact grown_drew (World.grownBy.refl _ none))
        have GD := Lib.hid (grown_trans' GG.out GW.out)
        have kd : wd.cell? ⟨g, m * 4 + 3, none⟩ = some (.slice U un uc) := keepC GW.out f3
        have hS0 : SP gl k (.slice D dn dc) wd := ⟨keepC GW.out e3, Nat.lt_of_lt_of_le HGLS.out GW.out.size⟩
        have RU := Lib.hid ((RU0.out.below (below_of_none GW.out)).more GW.out.size)
        have RD_ := Lib.hid ((HRD.out.below (below_of_none GW.out)).more GW.out.size)
        have CG := Lib.hid (CG0.out.kept GW.out)
        have OP := Lib.hid (HO.out.none_ GW.out)
        clear f0 f3 e3
        refine helds_begin (SP gl k (.slice D dn dc)) (by kernel_rfl) (by rw [hwd]; exact hS0) (fun _ => ?_)
        try rw [hwd]
        refine helds_take (i := 0) (d := some 34) (v := ?vp7_1) (by assumption) rfl rfl (by kernel_rfl) (fun _ _ _ h => h) ?yp7_1 ?_; case yp7_1 => (refine Or.inl ⟨rfl, fun wx hS => ?_⟩; go_simp; try with_reducible rfl)
        try simp only [Act.put, List.setIfInBounds_toArray, List.set_cons_zero, List.set_cons_succ]
        refine helds_take (i := 1) (d := some 35) (v := ?vp7_2) (by assumption) rfl rfl (by kernel_rfl) (fun _ _ _ h => h) ?yp7_2 ?_; case yp7_2 => (refine Or.inl ⟨rfl, fun wx hS => ?_⟩; go_simp; try with_reducible rfl)
        try simp only [Act.put, List.setIfInBounds_toArray, List.set_cons_zero, List.set_cons_succ]
        refine helds_take (i := 2) (d := some 36) (v := ?vp7_3) (by assumption) rfl rfl (by kernel_rfl) (fun _ _ _ h => h) ?yp7_3 ?_; case yp7_3 => (refine Or.inl ⟨rfl, fun wx hS => ?_⟩; go_simp; try with_reducible rfl)
        try simp only [Act.put, List.setIfInBounds_toArray, List.set_cons_zero, List.set_cons_succ]
        refine helds_take (i := 4) (d := some 38) (v := ?vp7_4) (by assumption) rfl rfl (by kernel_rfl) (fun _ _ _ h => h) ?yp7_4 ?_; case yp7_4 => (refine Or.inl ⟨rfl, fun wx hS => ?_⟩; go_simp; try with_reducible rfl)
        try simp only [Act.put, List.setIfInBounds_toArray, List.set_cons_zero, List.set_cons_succ]
        refine helds_take (i := 5) (d := some 39) (v := ?vp7_5) (by assumption) rfl rfl (by kernel_rfl) (fun _ _ _ h => h) ?yp7_5 ?_; case yp7_5 => (refine Or.inl ⟨rfl, fun wx hS => ?_⟩; go_simp; try with_reducible rfl)
        try simp only [Act.put, List.setIfInBounds_toArray, List.set_cons_zero, List.set_cons_succ]
        refine helds_take (i := 6) (d := some 40) (v := ?vp7_6) (by assumption) rfl rfl (by kernel_rfl) (fun _ _ _ h => h) ?yp7_6 ?_; case yp7_6 => (refine Or.inl ⟨rfl, fun wx hS => ?_⟩; go_simp; try with_reducible rfl)
        try simp only [Act.put, List.setIfInBounds_toArray, List.set_cons_zero, List.set_cons_succ]
        refine helds_take (i := 7) (d := some 41) (v := ?vp7_7) (by assumption) rfl rfl (by kernel_rfl) (fun _ _ _ h => h) ?yp7_7 ?_; case yp7_7 => (refine Or.inl ⟨rfl, fun wx hS => ?_⟩; go_simp; try with_reducible rfl)
        try simp only [Act.put, List.setIfInBounds_toArray, List.set_cons_zero, List.set_cons_succ]
        refine helds_take (i := 8) (d := some 42) (v := ?vp7_8) (by assumption) rfl rfl (by kernel_rfl) (fun _ _ _ h => h) ?yp7_8 ?_; case yp7_8 => (refine Or.inl ⟨rfl, fun wx hS => ?_⟩; go_simp; try with_reducible rfl)
        try simp only [Act.put, List.setIfInBounds_toArray, List.set_cons_zero, List.set_cons_succ]
        refine helds_take (i := 11) (d := some 45) (v := ?vp7_9) (by assumption) rfl rfl (by kernel_rfl) (fun _ _ _ h => h) ?yp7_9 ?_; case yp7_9 => (refine Or.inl ⟨rfl, fun wx hS => ?_⟩; go_simp; try with_reducible rfl)
        try simp only [Act.put, List.setIfInBounds_toArray, List.set_cons_zero, List.set_cons_succ]
        refine helds_take (i := 12) (d := some 46) (v := ?vp7_10) (by assumption) rfl rfl (by kernel_rfl) (fun _ _ _ h => h) ?yp7_10 ?_; case yp7_10 => (refine Or.inl ⟨rfl, fun wx hS => ?_⟩; go_simp; try with_reducible rfl)
        try simp only [Act.put, List.setIfInBounds_toArray, List.set_cons_zero, List.set_cons_succ]
        refine helds_take (i := 13) (d := some 47) (v := ?vp7_11) (by assumption) rfl rfl (by kernel_rfl) (fun _ _ _ h => h) ?yp7_11 ?_; case yp7_11 => (refine Or.inl ⟨rfl, fun wx hS => ?_⟩; go_simp; try with_reducible rfl)
        try simp only [Act.put, List.setIfInBounds_toArray, List.set_cons_zero, List.set_cons_succ]
        refine helds_take (i := 14) (d := some 48) (v := ?vp7_12) (by assumption) rfl rfl (by kernel_rfl) (fun _ _ _ h => h) ?yp7_12 ?_; case yp7_12 => (refine Or.inl ⟨rfl, fun wx hS => ?_⟩; go_simp; try with_reducible rfl)
        try simp only [Act.put, List.setIfInBounds_toArray, List.set_cons_zero, List.set_cons_succ]
        refine helds_take (i := 15) (d := some 49) (v := _) (by assumption) rfl rfl (by kernel_rfl) (fun _ _ _ h => h) (yields_cellX aggB (.tmp 48) rfl rfl (fun wx hx => hx.1) (by first | rfl | go_simp)) ?_
        try simp only [Act.put, List.setIfInBounds_toArray, List.set_cons_zero, List.set_cons_succ]
        refine helds_two (i := 3) (j := 9) (by kernel_rfl) rfl rfl rfl rfl (fun K hK => ?_) (fun K hK => ?_)
        · refine wp_litN (d := some 37) (e := 5) 0 #[] rfl (by go_simp) ?_
          intro w3 hw3
          have N3 := Lib.hid (show wd.grownBy w3 none by rw [hw3]; exact grown_alloc _ _ _)
          have O3 := Lib.hid (show OwnB w3 wd.heap.size 5 (.slice (some ⟨wd.heap.size, 0, none⟩) 0 0) [] by rw [hw3]; exact OwnB.new0 _ _ _ (Nat.le_refl _))
          have hS3 : SP gl k (.slice D dn dc) w3 := SP.none_ hS0 N3.out
          have k3 : w3.cell? ⟨g, m * 4 + 3, none⟩ = some (.slice U un uc) := keepC N3.out kd
          clear hw3
          refine hK.out _ _ (by assumption) (fun _ => ?_)
          clear hK K
          try simp only [Act.put, List.setIfInBounds_toArray, List.set_cons_zero, List.set_cons_succ]
          refine helds_one (i := 9) rfl (by kernel_rfl) rfl (fun K hK => ?_)
          refine wp_valD (d := some 43) (v := .slice U un uc) rfl ?_ ?_
          · have kx := k3
            clear hK K
            simp [execOp, go_sem, kx]
            done
          refine hK.out _ _ (by assumption) (fun _ => ?_)
          clear hK K
          try simp only [Act.put, List.setIfInBounds_toArray, List.set_cons_zero, List.set_cons_succ]
          refine helds_one (i := 10) rfl (by kernel_rfl) rfl (fun K hK => ?_)
          refine wp_appB (d := some 44) byteT rfl (.tmp 37) (.tmp 43) rfl (OwnB.base_ O3.out (Nat.le_refl _)) ((RU.out.below (below_of_none N3.out)).more N3.out.size) rfl (by rw [HUN.out]; rfl) (by have := HSM.out; simp; omega) N3.out.size ?_
          intro v4 w4 o4 g4 a4
          rw [List.nil_append] at o4
          have N4 := Lib.hid (grown_row N3.out g4 (fun z hz => by simp [Value.ownBlock] at hz; omega))
          have O4 := Lib.hid o4
          have hS4 : SP gl k (.slice D dn dc) w4 := SP.none_ hS0 N4.out
          clear o4 g4 a4
          refine hK.out _ _ (by assumption) (fun _ => ?_)
          clear hK K
          try simp only [Act.put, List.setIfInBounds_toArray, List.set_cons_zero, List.set_cons_succ]
          refine helds_one (i := 16) rfl (by kernel_rfl) rfl (fun K hK => ?_)
          refine wp_appB (d := some 50) byteT rfl (.tmp 44) (.tmp 49) rfl O4.out ((RD_.out.below (below_of_none N4.out)).more N4.out.size) (by obtain ⟨_, _, hx, _⟩ := O4.out.shape; first | rfl | (rw [hx]; rfl)) (by rw [HDN.out]; rfl) (by have := HSM.out; omega) N4.out.size ?_
          intro v5 w5 o5 g5 a5
          have N5 := Lib.hid (grown_row N4.out g5 (fun z hz => by have := (O4.out.lt z hz).1; omega))
          have O5 := Lib.hid o5
          have hS5 : SP gl k (.slice D dn dc) w5 := SP.none_ hS0 N5.out
          have C5 := Lib.hid (CG.out.kept N5.out)
          clear o5 g5 a5
          refine hK.out _ _ (by assumption) (fun _ => ?_)
          clear hK K
          try simp only [Act.put, List.setIfInBounds_toArray, List.set_cons_zero, List.set_cons_succ]
          refine helds_take (i := 17) (d := some 51) (v := ?vp7_14) (by assumption) rfl rfl (by kernel_rfl) (fun _ _ _ h => h) ?yp7_14 ?_; case yp7_14 => (refine Or.inl ⟨rfl, fun wx hS => ?_⟩; go_simp; try with_reducible rfl)
          try simp only [Act.put, List.setIfInBounds_toArray, List.set_cons_zero, List.set_cons_succ]
          refine helds_take (i := 18) (d := some 52) (v := ?vp7_15) (by assumption) rfl rfl (by kernel_rfl) (fun _ _ _ h => h) ?yp7_15 ?_; case yp7_15 => (refine Or.inl ⟨rfl, fun wx hS => ?_⟩; go_simp; try with_reducible rfl)
          try simp only [Act.put, List.setIfInBounds_toArray, List.set_cons_zero, List.set_cons_succ]
          refine helds_one (i := 19) rfl (by kernel_rfl) rfl (fun K hK => ?_)
          refine wp_storeC (d := none) (off := m * 4 + 3) (p := [v5]) szB rfl (.tmp 52) (.tmp 50) rfl v5 (by obtain ⟨_, _, hx, _⟩ := O5.out.shape; rw [hx]; rfl) (fun u hu => by rw [List.mem_singleton.1 hu]; obtain ⟨_, _, hx, _⟩ := O5.out.shape; rw [hx]; rfl) C5.out rfl (by have := HCL.out; omega) rfl rfl ?_
          intro w6 h6 g6
          rw [over_one cs _ v5 (by have := HCL.out; omega)] at h6
          have P6 := Lib.hid ((OP.out.none_ N5.out).setLast ((O5.out.base_ (Nat.le_trans HBB.out GD.out.size)).mod (Mod.of_grown g6) (fun z hz e => by injection e with e; subst e; exact O5.out.ne_cells C5.out (by decide) hz)) HG.out C5.out (by rw [HXM.out]; exact h6) g6)
          have N6 := Lib.hid (grown_row (grown_trans' GD.out N5.out) g6 (fun z hz => by injection hz with hz; subst hz; exact HGB.out))
          have hS6 : SP gl k (.slice D dn dc) w6 := SP.row hS5 g6 (fun e => by injection e with e; have := HGB.out; have := HGL.out; omega)
          clear h6 g6
          refine hK.out _ _ (by assumption) (fun _ => ?_)
          clear hK K
          try simp only [Act.put]
          refine held_end (by kernel_rfl) ?_ _
          clear hS0 hS3 hS4 hS5 hS6 k3 kd
          go_wp2
          go_roundw
          case rel => exact ⟨k + 1, _, by go_num, by omega, by rw [HPT.out]; exact P6.out, N6.out⟩
          case measure => simp [intOf]; omega
        · refine wp_valD (d := some 43) (v := .slice U un uc) rfl ?_ ?_
          · have kx := kd
            clear hK K
            simp [execOp, go_sem, kx]
            done
          refine hK.out _ _ (by assumption) (fun _ => ?_)
          clear hK K
          try simp only [Act.put, List.setIfInBounds_toArray, List.set_cons_zero, List.set_cons_succ]
          refine helds_one (i := 3) rfl (by kernel_rfl) rfl (fun K hK => ?_)
          refine wp_litN (d := some 37) (e := 5) 0 #[] rfl (by go_simp) ?_
          intro w3 hw3
          have N3 := Lib.hid (show wd.grownBy w3 none by rw [hw3]; exact grown_alloc _ _ _)
          have O3 := Lib.hid (show OwnB w3 wd.heap.size 5 (.slice (some ⟨wd.heap.size, 0, none⟩) 0 0) [] by rw [hw3]; exact OwnB.new0 _ _ _ (Nat.le_refl _))
          have hS3 : SP gl k (.slice D dn dc) w3 := SP.none_ hS0 N3.out
          have k3 : w3.cell? ⟨g, m * 4 + 3, none⟩ = some (.slice U un uc) := keepC N3.out kd
          clear hw3
          refine hK.out _ _ (by assumption) (fun _ => ?_)
          clear hK K
          try simp only [Act.put, List.setIfInBounds_toArray, List.set_cons_zero, List.set_cons_succ]
          refine helds_one (i := 10) rfl (by kernel_rfl) rfl (fun K hK => ?_)
          refine wp_appB (d := some 44) byteT rfl (.tmp 37) (.tmp 43) rfl (OwnB.base_ O3.out (Nat.le_refl _)) ((RU.out.below (below_of_none N3.out)).more N3.out.size) rfl (by rw [HUN.out]; rfl) (by have := HSM.out; simp; omega) N3.out.size ?_
          intro v4 w4 o4 g4 a4
          rw [List.nil_append] at o4
          have N4 := Lib.hid (grown_row N3.out g4 (fun z hz => by simp [Value.ownBlock] at hz; omega))
          have O4 := Lib.hid o4
          have hS4 : SP gl k (.slice D dn dc) w4 := SP.none_ hS0 N4.out
          clear o4 g4 a4
          refine hK.out _ _ (by assumption) (fun _ => ?_)
          clear hK K
          try simp only [Act.put, List.setIfInBounds_toArray, List.set_cons_zero, List.set_cons_succ]
          refine helds_one (i := 16) rfl (by kernel_rfl) rfl (fun K hK => ?_)
          refine wp_appB (d := some 50) byteT rfl (.tmp 44) (.tmp 49) rfl O4.out ((RD_.out.below (below_of_none N4.out)).more N4.out.size) (by obtain ⟨_, _, hx, _⟩ := O4.out.shape; first | rfl | (rw [hx]; rfl)) (by rw [HDN.out]; rfl) (by have := HSM.out; omega) N4.out.size ?_
          intro v5 w5 o5 g5 a5
          have N5 := Lib.hid (grown_row N4.out g5 (fun z hz => by have := (O4.out.lt z hz).1; omega))
          have O5 := Lib.hid o5
          have hS5 : SP gl k (.slice D dn dc) w5 := SP.none_ hS0 N5.out
          have C5 := Lib.hid (CG.out.kept N5.out)
          clear o5 g5 a5
          refine hK.out _ _ (by assumption) (fun _ => ?_)
          clear hK K
          try simp only [Act.put, List.setIfInBounds_toArray, List.set_cons_zero, List.set_cons_succ]
          refine helds_take (i := 17) (d := some 51) (v := ?vp7_16) (by assumption) rfl rfl (by kernel_rfl) (fun _ _ _ h => h) ?yp7_16 ?_; case yp7_16 => (refine Or.inl ⟨rfl, fun wx hS => ?_⟩; go_simp; try with_reducible rfl)
          try simp only [Act.put, List.setIfInBounds_toArray, List.set_cons_zero, List.set_cons_succ]
          refine helds_take (i := 18) (d := some 52) (v := ?vp7_17) (by assumption) rfl rfl (by kernel_rfl) (fun _ _ _ h => h) ?yp7_17 ?_; case yp7_17 => (refine Or.inl ⟨rfl, fun wx hS => ?_⟩; go_simp; try with_reducible rfl)
          try simp only [Act.put, List.setIfInBounds_toArray, List.set_cons_zero, List.set_cons_succ]
          refine helds_one (i := 19) rfl (by kernel_rfl) rfl (fun K hK => ?_)
          refine wp_storeC (d := none) (off := m * 4 + 3) (p := [v5]) szB rfl (.tmp 52) (.tmp 50) rfl v5 (by obtain ⟨_, _, hx, _⟩ := O5.out.shape; rw [hx]; rfl) (fun u hu => by rw [List.mem_singleton.1 hu]; obtain ⟨_, _, hx, _⟩ := O5.out.shape; rw [hx]; rfl) C5.out rfl (by have := HCL.out; omega) rfl rfl ?_
          intro w6 h6 g6
          rw [over_one cs _ v5 (by have := HCL.out; omega)] at h6
          have P6 := Lib.hid ((OP.out.none_ N5.out).setLast ((O5.out.base_ (Nat.le_trans HBB.out GD.out.size)).mod (Mod.of_grown g6) (fun z hz e => by injection e with e; subst e; exact O5.out.ne_cells C5.out (by decide) hz)) HG.out C5.out (by rw [HXM.out]; exact h6) g6)
          have N6 := Lib.hid (grown_row (grown_trans' GD.out N5.out) g6 (fun z hz => by injection hz with hz; subst hz; exact HGB.out))
          have hS6 : SP gl k (.slice D dn dc) w6 := SP.row hS5 g6 (fun e => by injection e with e; have := HGB.out; have := HGL.out; omega)
          clear h6 g6
          refine hK.out _ _ (by assumption) (fun _ => ?_)
          clear hK K
          try simp only [Act.put]
          refine held_end (by kernel_rfl) ?_ _
          clear hS0 hS3 hS4 hS5 hS6 k3 kd
          go_wp2
          go_roundw
          case rel => exact ⟨k + 1, _, by go_num, by omega, by rw [HPT.out]; exact P6.out, N6.out⟩
          case measure => simp [intOf]; omega
      · have HJ := Lib.hid (show join ps t = ps ++ [t] by unfold join; rw [if_neg (by rw [HTK.out]; exact hm)])
        obtain ⟨cs, hcs, hcl, -⟩ := HLB.out
        have HCS := Lib.hid hcs
        have HCT := Lib.hid (show (cs.drop (k * 4)).take 4 = [.int .i64 tk, .int .i64 t.verb, .int .i64 t.opt, .slice D dn dc] ∧ k * 4 + 4 ≤ cs.length by
          obtain ⟨x0, x1, x2, x3⟩ := HE.out
          rw [HTK.out] at x0
          exact four_at hcs x0 x1 x2 x3)
        clear hcs hcl
        by_cases h1 : tk = 1
        · cases hl : ps.getLast? with
          | none =>
            have h0 : ps = [] := List.getLast?_eq_none_iff.1 hl
            obtain rfl : p = 0 := by rw [← HP.out, h0]; rfl
            subst h1
            clear hm hl h0
            go_wp2_with (first
              | (refine wpList_loadC (off := k * 4) (p := [.int .i64 1, .int .i64 t.verb, .int .i64 t.opt, .slice D dn dc]) aggT4 rfl (.tmp 56) rfl HCS.out HCT.out.1 HCT.out.2 (by first | rfl | go_simp) ?_)
              | (at_builtin
                 obtain ⟨wa, hwa⟩ : ∃ wa, wa = wr.alloc (.cells #[.int .i64 1, .int .i64 t.verb, .int .i64 t.opt, .slice D dn dc] 24) := ⟨_, rfl⟩
                 have GA := Lib.hid (show wr.grownBy wa none by rw [hwa]; exact grown_alloc _ _ _)
                 have NA := Lib.hid (show CB wa wr.heap.size 24 [.int .i64 1, .int .i64 t.verb, .int .i64 t.opt, .slice D dn dc] by rw [hwa]; exact CB.new _ _ _)
                 rw [← hwa]
                 clear hwa
                 refine wpList_appP rfl (.tmp 53) (.tmp 58) rfl (t := t) (u := .slice D dn dc) (ad := ⟨wr.heap.size, 0, none⟩) (c := 1) (HO.out.none_ GA.out) (OwnB.none_ HDD.out GA.out) (by rw [HTK.out]; exact NA.out.at_ rfl) (NA.out.at_ rfl) (NA.out.at_ rfl) (NA.out.at_ rfl) (by first | rfl | go_simp) (by first | rfl | go_simp) (by have := HPL.out; omega) (Nat.le_trans GG.out.size GA.out.size) ?_
                 intro v2 w2 o2 g2 a2
                 have O2 := Lib.hid o2
                 have G2 := Lib.hid (grown_row (grown_trans' GG.out GA.out) g2 (fun z hz => (HO.out.lt z hz).1))
                 clear o2 g2 a2))
            go_roundw
            case rel => exact ⟨k + 1, _, by go_num, by omega, by rw [HPT.out, HJ.out]; exact O2.out, G2.out⟩
            case measure => simp [intOf]; omega
          | some q =>
            obtain ⟨X, hX⟩ := List.getLast?_eq_some_iff.1 hl
            obtain ⟨m, hxm⟩ : ∃ m, X.length = m := ⟨_, rfl⟩
            have hpm : p = m + 1 := by rw [← HP.out, hX, List.length_append, hxm]; rfl
            subst hpm
            have hqk : (q.kind == 1) = false := by rw [beq_eq_false_iff_ne]; intro e; exact hm ⟨h1, by rw [hl]; exact congrArg some e⟩
            obtain ⟨g, hg⟩ := HHB2.out (by omega)
            obtain rfl := HHB1.out g hg
            obtain ⟨u, hu⟩ : ∃ u, us[m]? = some u := ⟨_, List.getElem?_eq_getElem (by have := HO.out.len; rw [HP.out] at this; omega)⟩
            obtain ⟨f0, -, -, -⟩ := HO.out.cells_at (k := m) (t := q) (u := u) (by rw [hX, ← hxm]; simp) hu hg
            have hp0 : (0 : Int) < (m : Int) + 1 := by omega
            have hw1 : IntKind.i64.wrap ((m : Int) + 1 - 1) = (m : Int) := by have := HPL.out; rw [hX, List.length_append, hxm] at this; simp [IntKind.wrap, IntKind.bits, IntKind.signed]; simp at this; omega
            have hm0 : (0 : Int) ≤ (m : Int) := by omega
            have hmi : (m : Int) ≤ 1000000 := by have := HPL.out; rw [hX, List.length_append, hxm] at this; simp at this; omega
            subst h1
            clear hm hl hX hxm hu hg
            generalize q.kind = qk at *
            go_wp2_with (first
              | (refine wpList_loadC (off := k * 4) (p := [.int .i64 1, .int .i64 t.verb, .int .i64 t.opt, .slice D dn dc]) aggT4 rfl (.tmp 56) rfl HCS.out HCT.out.1 HCT.out.2 (by first | rfl | go_simp) ?_)
              | (at_builtin
                 obtain ⟨wa, hwa⟩ : ∃ wa, wa = wr.alloc (.cells #[.int .i64 1, .int .i64 t.verb, .int .i64 t.opt, .slice D dn dc] 24) := ⟨_, rfl⟩
                 have GA := Lib.hid (show wr.grownBy wa none by rw [hwa]; exact grown_alloc _ _ _)
                 have NA := Lib.hid (show CB wa wr.heap.size 24 [.int .i64 1, .int .i64 t.verb, .int .i64 t.opt, .slice D dn dc] by rw [hwa]; exact CB.new _ _ _)
                 rw [← hwa]
                 clear hwa
                 refine wpList_appP rfl (.tmp 53) (.tmp 58) rfl (t := t) (u := .slice D dn dc) (ad := ⟨wr.heap.size, 0, none⟩) (c := 1) (HO.out.none_ GA.out) (OwnB.none_ HDD.out GA.out) (by rw [HTK.out]; exact NA.out.at_ rfl) (NA.out.at_ rfl) (NA.out.at_ rfl) (NA.out.at_ rfl) (by first | rfl | go_simp) (by first | rfl | go_simp) (by have := HPL.out; omega) (Nat.le_trans GG.out.size GA.out.size) ?_
                 intro v2 w2 o2 g2 a2
                 have O2 := Lib.hid o2
                 have G2 := Lib.hid (grown_row (grown_trans' GG.out GA.out) g2 (fun z hz => (HO.out.lt z hz).1))
                 clear o2 g2 a2))
            go_roundw
            case rel => exact ⟨k + 1, _, by go_num, by omega, by rw [HPT.out, HJ.out]; exact O2.out, G2.out⟩
            case measure => simp [intOf]; omega
        · have ek : (tk == 1) = false := by rw [beq_eq_false_iff_ne]; exact h1
          clear hm
          go_wp2_with (first
            | (refine wpList_loadC (off := k * 4) (p := [.int .i64 tk, .int .i64 t.verb, .int .i64 t.opt, .slice D dn dc]) aggT4 rfl (.tmp 56) rfl HCS.out HCT.out.1 HCT.out.2 (by first | rfl | go_simp) ?_)
            | (at_builtin
               obtain ⟨wa, hwa⟩ : ∃ wa, wa = wr.alloc (.cells #[.int .i64 tk, .int .i64 t.verb, .int .i64 t.opt, .slice D dn dc] 24) := ⟨_, rfl⟩
               have GA := Lib.hid (show wr.grownBy wa none by rw [hwa]; exact grown_alloc _ _ _)
               have NA := Lib.hid (show CB wa wr.heap.size 24 [.int .i64 tk, .int .i64 t.verb, .int .i64 t.opt, .slice D dn dc] by rw [hwa]; exact CB.new _ _ _)
               rw [← hwa]
               clear hwa
               refine wpList_appP rfl (.tmp 53) (.tmp 58) rfl (t := t) (u := .slice D dn dc) (ad := ⟨wr.heap.size, 0, none⟩) (c := 1) (HO.out.none_ GA.out) (OwnB.none_ HDD.out GA.out) (by rw [HTK.out]; exact NA.out.at_ rfl) (NA.out.at_ rfl) (NA.out.at_ rfl) (NA.out.at_ rfl) (by first | rfl | go_simp) (by first | rfl | go_simp) (by have := HPL.out; omega) (Nat.le_trans GG.out.size GA.out.size) ?_
               intro v2 w2 o2 g2 a2
               have O2 := Lib.hid o2
               have G2 := Lib.hid (grown_row (grown_trans' GG.out GA.out) g2 (fun z hz => (HO.out.lt z hz).1))
               clear o2 g2 a2))
          go_roundw
          case rel => exact ⟨k + 1, _, by go_num, by omega, by rw [HPT.out, HJ.out]; exact O2.out, G2.out⟩
          case measure => simp [intOf]; omega
    · obtain rfl : k = n := by omega
      have hki : ¬ (k : Int) < (k : Int) := by omega
      have hlt : ts.take k = ts := List.take_of_length_le (by rw [HN.out]; exact Nat.le_refl _)
      rw [hlt] at ho
      have HO := Lib.hid ho
      have GG := Lib.hid hg
      clear ho hg hlt
      go_wp2
      go_ret
      exact ⟨_, us, rfl, HO.out, GG.out⟩
end Go.Proofs.Ytcfhpoigfkljpaa
