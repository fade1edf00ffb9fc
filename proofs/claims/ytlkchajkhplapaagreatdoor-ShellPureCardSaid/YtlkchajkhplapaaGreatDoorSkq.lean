/- Log: what was run, apart; listings of nodes that stay. -/
import Derived.Test.YtlkchajkhplapaaGreatDoorSko
import Derived.Test.YtlkchajkhplapaaGreatDoorTsl
namespace Go.Proofs.YtlkchajkhplapaaGreatDoor
open Go.RowKit Go.Maps Go.WideMaps

section
variable {P : Program} {w : World} {ops : Array Oper} {rest : List Oper} {o : Oper} {a : Act} {Q : Exit → Act → World → Prop} {t e : TypeId} {sz : Nat}
theorem wpList_appXs (hT : RowT P t e sz) (hgd : o.guard = none) (s x : Operand)
    (ho : o.op = .call { callee := .builtin .append, args := #[s, x], argTypes := #[t, t] })
    {base : Nat} {v : Value} {Cs Ps : List (List Value)} {b off c n : Nat} (hown : RowX w base e sz v Cs) (hn : n = Ps.length)
    (hc : ∀ k p, Ps[k]? = some p → ∀ j u, p[j]? = some u → w.cell? ⟨b, off + sz * k + j, none⟩ = some u) (hs' : ∀ p ∈ Ps, p.length = sz) (h1 : ∀ p ∈ Ps, ∀ u ∈ p, u.oneCell' = true) (hs : a.eval s = v) (hx : a.eval x = .slice (some ⟨b, off, none⟩) n c) (hlen : Cs.length + Ps.length ≤ 1000000000) (hbase : base ≤ w.heap.size)
    (h : ∀ v' w', RowX w' base e sz v' (Cs ++ Ps) → w.grownBy w' v.ownBlock → wpList P ops Q rest (a.put o.dst v') w') : wpList P ops Q (o :: rest) a w := by
  subst hn
  refine wpList_plain hgd fun K hK => ?_
  obtain ⟨v', w', hrun, h2, h3, -⟩ := run_appXs (c := c) hT o.type hown hc hs' h1 hlen hbase
  unfold Oper.wp execOp
  simp only [ho, resolve, invoke, builtin, Sem.run_bind, Sem.run_pure, Result.andThen_ok, List.map_toArray, List.map_cons, List.map_nil, hs, hx]
  rw [hrun]
  exact hK _ _ (h v' w' h2 h3)
end
theorem ranOk_len {Cs : List (List Value)} (h : RanOk Cs) : (∀ p ∈ Cs, p.length = 3) ∧ ∀ p ∈ Cs, ∀ u ∈ p, u.oneCell' = true := by
  refine ⟨fun p hp => ?_, fun p hp u hu => ?_⟩
  · obtain ⟨who, line, k, rfl, -, -⟩ := h p hp
    rfl
  · obtain ⟨who, line, k, rfl, -, -⟩ := h p hp
    exact ran_one who line k u hu
set_option maxHeartbeats 2000000 in
theorem rclone_any (w : World) {base : Nat} (v : Value) (Cs : List (List Value)) (n : Nat) (hn : Cs.length = n) (hr : RowX w base 126 3 v Cs) (hok : RanOk Cs) (hl : n ≤ 1000000) :
    Calls Tryz.prog 79 #[v] w fun e w' => ∃ v, e = .returned v ∧ RowX w' w.heap.size 126 3 v Cs ∧ w.grownBy w' none := by
  rcases hr.1.2 with ⟨rfl, h0⟩ | ⟨g, cap, cur, rfl, -⟩
  · obtain rfl : Cs = [] := List.eq_nil_of_length_eq_zero h0
    clear hr hok h0 hl hn
    have hne := fun wx => Lib.run_eql_slice_nil (P := Tryz.prog) wx 59 126 none 0 0 0 0 Tryz.underlying59
    go_enter Tryz.func79, Tryz.ntmps79
    go_wp2
    go_ret
    exact ⟨_, rfl, RowX.nil_ _ _ _ _, World.grownBy.refl _ _⟩
  · rw [hn] at hr ⊢
    have hne := fun wx => Lib.run_eql_slice_nil (P := Tryz.prog) wx 59 126 (some ⟨g, 0, none⟩) n cap 0 0 Tryz.underlying59
    have hl2 := ranOk_len hok
    have HC := Lib.hid (fun (wx : World) (hx : w.grownBy wx none) (k : Nat) (p : List Value) (hk : Cs[k]? = some p) (j : Nat) (u : Value) (hj : p[j]? = some u) => show wx.cell? ⟨g, 0 + 3 * k + j, none⟩ = some u from by
      rw [Nat.zero_add]
      exact keepCell hx (rowX_at hr hk hj))
    have HL2 := Lib.hid hl2
    have HN := Lib.hid hn
    have HL := Lib.hid hl
    clear hr hok hl2 hl hn
    go_enter Tryz.func79, Tryz.ntmps79
    go_wp2_with (refine wpList_appXs rowRan rfl (.tmp 5) (.tmp 6) rfl (Ps := Cs) (b := g) (off := 0) (c := cap) (RowX.new0 w w.heap.size 126 3 (Nat.le_refl _)) HN.out.symm (HC.out _ (grown_alloc w (.cells #[] 126) none)) HL2.out.1 HL2.out.2 (by first | rfl | go_simp) (by first | rfl | go_simp) (by rw [HN.out]; have := HL.out; simp; omega) (by rw [World.size_alloc]; omega) ?_
                 intro v' w' r' g'
                 rw [List.nil_append] at r'
                 have R := Lib.hid r'
                 have G := Lib.hid (none_rowB (grown_alloc w (.cells #[] 126) none) g' (fun z hz => by simp [Value.ownBlock] at hz; omega))
                 clear r' g')
    go_ret
    exact ⟨_, rfl, R.out, G.out⟩
def LogR (w : World) (N : Nat) (e : Ending) (w' : World) : Prop := ∃ A c, e = .returned (.slice A N c) ∧ w.grownBy w' none
set_option maxRecDepth 10000 in
set_option maxHeartbeats 4000000 in
theorem log_any {w0 w : World} {sb tb mb N : Nat} {M : Tr} (h : SG w0 w sb tb mb M N) (hN : N ≤ 1000000) :
    Calls Tryz.prog 36 #[.pointer (some ⟨sb, 0, none⟩)] w (LogR w N) := by
  obtain ⟨v, Cs, hcb, hrow, hcs, hok⟩ := h.sh
  have k1 := hcb.at_ (i := 1) (v := v) rfl
  have CL := Lib.hid (rclone_any w v Cs N hcs hrow hok hN)
  have HOK := Lib.hid hok
  have HCS := Lib.hid hcs
  have HN := Lib.hid hN
  clear h hcb hrow hok hcs hN
  go_enter Tryz.func36, Tryz.ntmps36
  go_wp2_with (go_at_call 79
               refine CL.out.mono ?_
               rintro e w1 ⟨u, rfl, r1, g1⟩
               obtain ⟨A1, c1, rfl, -, -⟩ := r1.shape
               rw [HCS.out] at r1 ⊢
               have R1 := Lib.hid r1
               have G1 := Lib.hid g1
               clear r1 g1)
  go_loopw [13] (fun iv wr => ∃ i : Nat, iv = .int .i64 i ∧ i ≤ N ∧ Hid (RowX wr w.heap.size 126 3 (.slice A1 N c1) Cs) ∧ Hid (w.grownBy wr none)) (fun iv _ => N - (intOf iv).toNat)
  case atStart => exact ⟨0, rfl, Nat.zero_le _, R1.out, G1.out⟩
  case round =>
    obtain ⟨i, rfl, hi, HR, HG⟩ := hrel
    have hN := HN.out
    by_cases hlt : i < N
    · have hii : (i : Int) < (N : Int) := by omega
      obtain ⟨c, hc⟩ : ∃ c, Cs[i]? = some c := ⟨_, List.getElem?_eq_getElem (by rw [HCS.out]; exact hlt)⟩
      obtain ⟨who, line, k, rfl, hw, hl⟩ := HOK.out c (List.mem_of_getElem? hc)
      obtain ⟨g, cap, cs, hv, hgb, hcg, hcl, hcz, htk, -⟩ := rowX_open HR.out (by rw [HCS.out]; omega)
      rw [HCS.out] at hv hcl htk
      injection hv with hv1 hv2 hv3
      subst hv1 hv3
      have HCG := Lib.hid hcg
      have HGB := Lib.hid hgb
      have HLN := Lib.hid (show 3 * i + 3 ≤ cs.length by rw [hcz]; omega)
      have q0 : wr.cell? ⟨g, i * 3, none⟩ = some (.string who) := by have := rowX_at (j := 0) (u := .string who) HR.out hc rfl; rwa [Nat.mul_comm, Nat.add_zero] at this
      have q1 : wr.cell? ⟨g, i * 3 + 1, none⟩ = some (.string line) := by have := rowX_at (j := 1) (u := .string line) HR.out hc rfl; rwa [Nat.mul_comm] at this
      have q2 : wr.cell? ⟨g, i * 3 + 2, none⟩ = some (.int .i64 k) := by have := rowX_at (j := 2) (u := .int .i64 k) HR.out hc rfl; rwa [Nat.mul_comm] at this
      have HST := Lib.hid (show Cs.set i (ranC who line k) = Cs from by
        obtain ⟨hl', e⟩ := List.getElem?_eq_some_iff.1 hc
        rw [show ranC who line k = Cs[i] from e.symm, List.set_getElem_self])
      have RA := Lib.hid (fun (W : World) => rapart_any W who line k (by omega) (by omega))
      have TK0 := Lib.hid True.intro
      clear hc hw hl hgb hcg hcl hcz htk
      obtain ⟨wa, hwa⟩ : ∃ x, x = wr.alloc (.cells #[.string who, .string line, .int .i64 k] 126) := ⟨_, rfl⟩
      have GA := Lib.hid (show wr.grownBy wa none by rw [hwa]; exact grown_alloc _ _ _)
      have HWA := Lib.hid hwa
      clear hwa
      go_wp2_with (first
        | (go_at_call 78
           rw [show wr.alloc (.cells #[.string who, .string line, .int .i64 k] 126) = wa from HWA.out.symm]
           refine (RA.out wa).mono ?_
           rintro e w4 ⟨rfl, g4⟩
           have G4 := Lib.hid (grown_trans' GA.out g4)
           have C4 := Lib.hid (HCG.out.kept (grown_trans' GA.out g4))
           have R4 := Lib.hid (HR.out.none (grown_trans' GA.out g4))
           clear g4 q0 q1 q2)
        | (refine wpList_storeC (off := i * 3) (p := ranC who line k) aggRan.hi rfl (.tmp 22) (.tmp 21) rfl (.agg (ranC who line k).toArray) rfl (ran_one _ _ _) C4.out rfl (by have := HLN.out; omega) (by first | rfl | go_simp) (by first | rfl | go_simp) ?_
           intro w5 h5 g5
           have R5 := Lib.hid (show RowX w5 w.heap.size 126 3 (.slice (some ⟨g, 0, none⟩) N c1) Cs from by
             have h6 := R4.out
             rw [← HCS.out] at h6
             have h7 := rowX_over (k := i) h6 (by rw [HCS.out]; exact hlt) rfl C4.out (by rw [Nat.mul_comm]; exact h5)
             rw [HST.out, HCS.out] at h7
             exact h7)
           have G5 := Lib.hid (none_rowB (grown_trans' HG.out G4.out) g5 (fun z hz => by injection hz with hz; have := HGB.out; omega))
           clear h5 g5))
      go_roundw
      case rel => exact ⟨i + 1, by go_num, by omega, R5.out, G5.out⟩
      case measure => simp [intOf]; omega
    · have hii : ¬ (i : Int) < (N : Int) := by omega
      go_wp2
      go_ret
      exact ⟨_, _, rfl, HG.out⟩
/-- Two listings of one Tree, the first of which is still there, are alike. -/
theorem alike_kp {ts : List TypeId} (ht : 5 ∉ ts) {w0 w1 w2 w3 : World} {b1 b2 : Nat} {M : Tr} {ks : List (List UInt8)} {xs ys : List (List Value)} (h1 : NodesAt w0 w1 b1 M ks ys) (h2 : NodesAt w2 w3 b2 M ks xs) (hg : Kp ts w0 w2) (hg2 : Kp ts w1 w3) : Alike2 w3 xs ys := by
  intro i c d hc hd
  have hi := (List.getElem?_eq_some_iff.1 hc).1
  rw [h2.1] at hi
  obtain ⟨n, l, dv, e1, e2, e3, rfl⟩ := h2.2 i _ c (List.getElem?_eq_getElem hi) hc
  obtain ⟨n', l', dv', f1, f2, f3, rfl⟩ := h1.2 i _ d (List.getElem?_eq_getElem hi) hd
  rw [e1] at f1
  injection f1 with f1
  subst f1
  have hl := (show OwnB w2 _ 5 _ _ from hg.own f2 ht).uniq e2
  subst hl
  exact ⟨_, _, _, _, dv, dv', l', rfl, rfl, OwnB.base_ e3 (Nat.zero_le _), OwnB.base_ (show OwnB w3 _ 5 _ _ from hg2.own f3 ht) (Nat.zero_le _)⟩
/-- A listing of a Tree's nodes. -/
def NL (w : World) (M : Tr) (A : Option Addr) (n cap : Nat) (w' : World) : Prop := ∃ (ks : List (List UInt8)) (cs : List (List Value)) (b : Nat), ListedM M ks ∧ cs.length = n ∧ RowX w' b 63 5 (.slice A n cap) cs ∧ NodesAt w w' b M ks cs
theorem s_nodes2 {w0 w : World} {tb mb : Nat} {M : Tr} (h : TG w0 w tb mb M) (hS : SndM M) :
    Calls Tryz.prog 29 #[.pointer (some ⟨tb, 0, none⟩)] w fun e w' => ∃ A n c, e = .returned (.slice A n c) ∧ NL w M A n c w' ∧ w.grownBy w' none := by
  refine (nodes_any w tb mb M h.ts (by have := hS.len; omega) hS.short).mono ?_
  rintro e w' ⟨v, ks, cs, rfl, hks, hrow, hat, hg⟩
  obtain ⟨A, c, rfl, -, -⟩ := hrow.shape
  exact ⟨A, cs.length, c, rfl, ⟨ks, cs, _, hks, rfl, hrow, hat⟩, hg⟩
theorem nl_same {ts : List TypeId} (ht : 5 ∉ ts ∧ 63 ∉ ts) {w0 w1 w2 w3 : World} {M : Tr} {A B : Option Addr} {n m ca cb : Nat} (h1 : NL w0 M A n ca w1) (h2 : NL w2 M B m cb w3) (hg : Kp ts w0 w2) (hg2 : Kp ts w1 w3) :
    Calls Tryz.prog 28 #[.slice B m cb, .slice A n ca] w3 fun e w' => e = .returned (.bool true) ∧ w3.grownBy w' none := by
  obtain ⟨ks, cs, b, hks, hn, hrow, hat⟩ := h1
  obtain ⟨ks2, cs2, b2, hks2, hm, hrow2, hat2⟩ := h2
  have hk := listed_one hks hks2
  subst hk
  have hnm : n = m := by rw [← hn, ← hm, hat.1, hat2.1]
  subst hnm
  have hr3 : RowX w3 b 63 5 (.slice A n ca) cs := ⟨hg2.own hrow.1 ht.2, hrow.2⟩
  obtain ⟨A', c', e, hs, -⟩ := hr3.shape
  injection e with e1 e2 e3
  subst e1 e3
  obtain ⟨B', d', f, hs2, -⟩ := hrow2.shape
  injection f with f1 f2 f3
  subst f1 f3
  exact same_true w3 B A n cb ca cs2 cs hm hn hs2 hs (alike_kp ht.1 hat hat2 hg hg2)
end Go.Proofs.YtlkchajkhplapaaGreatDoor
