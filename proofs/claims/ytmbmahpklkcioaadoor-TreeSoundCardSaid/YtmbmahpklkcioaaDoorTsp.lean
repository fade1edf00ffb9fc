/- The walk of TreeSound. -/
import Derived.Test.YtmbmahpklkcioaaDoorTso
import Derived.Deep.QuietTactic
import Derived.BigQuiet
import Derived.Laws.Cover1
namespace Go.Proofs.YtmbmahpklkcioaaDoor
open Go.RowKit Go.Maps Go.WideMaps

theorem bytesLess_of_lt : ∀ {x y : List UInt8}, x < y → Op.bytesLess x y = true
  | [], [], h => absurd h (List.lt_irrefl _)
  | [], _ :: _, _ => rfl
  | _ :: _, [], h => absurd h (List.not_lt_nil _)
  | a :: x, b :: y, h => by
    rcases List.cons_lt_cons_iff.1 h with h1 | ⟨rfl, h1⟩
    · simp [Op.bytesLess, h1]
    · simp [Op.bytesLess, bytesLess_of_lt h1]
theorem wp_callD {P : Program} {o : Oper} {a : Act} {w : World} {K : Act → World → Prop} {Q : Exit → Act → World → Prop} {d : Option Tmp} {f : FuncId} {args : Array Value} (hd : o.dst = d) (h : (execOp a.eval o).run P w = .ok (.enter f args) w)
    (hc : Calls P f args w fun e w' => ∃ v, e = .returned v ∧ K (a.put d v) w') : o.wp P a w K Q := by
  subst hd
  unfold Oper.wp
  rw [h, Oper.upon_enter]
  refine hc.mono ?_
  rintro e w' ⟨v, rfl, hk⟩
  exact hk
/-- What the great region keeps: some cells, what lay there at its begin, the map of directories. -/
def BxS (WA : World) (cs : List (Addr × Value)) (db : Nat) (Mb : List (List UInt8 × Bool)) : World → Prop := fun W => (∀ p ∈ cs, p.1.block < WA.heap.size ∧ W.cell? p.1 = some p.2) ∧ Below WA.heap.size WA W ∧ db < WA.heap.size ∧ MT Tryd.prog 9 kS bV W db Mb
theorem BxS.step {WA W W' : World} {cs : List (Addr × Value)} {db : Nat} {Mb : List (List UInt8 × Bool)} (h : BxS WA cs db Mb W) (hb : Below W.heap.size W W') : BxS WA cs db Mb W' :=
  ⟨fun p hp => ⟨(h.1 p hp).1, (hb.cell (p := p.1) (Nat.lt_of_lt_of_le (h.1 p hp).1 h.2.1.size)).trans (h.1 p hp).2⟩, h.2.1.trans (hb.mono h.2.1.size), h.2.2.1, h.2.2.2.below (Nat.lt_of_lt_of_le h.2.2.1 h.2.1.size) hb⟩
theorem without_outB {M : List (List UInt8 × Bool)} {p : List UInt8} (h : p ∉ keysM M) : withoutM M p = M := by
  unfold withoutM
  refine List.filter_eq_self.2 fun x hx => ?_
  simp only [decide_eq_true_eq]
  intro e
  exact h (mem_keysM.2 ⟨x.2, by rw [← e]; exact hx⟩)
theorem nilBo (w : World) : (zeroValue 4).run Tryd.prog w = .ok (.bool false) w := by kernel_rfl
theorem run_lookD {W : World} {db : Nat} {Mb : List (List UInt8 × Bool)} (h : MT Tryd.prog 9 kS bV W db Mb) (x : List UInt8) (hin : (x, true) ∈ Mb) :
    (Instr.lookup 38 (.map (some db)) (.string ⟨x.toArray⟩) false).run Tryd.prog W = .ok (.bool true) W := by
  have hok := h.1.2 x (mem_keysM.2 ⟨true, hin⟩)
  obtain ⟨u, ps, hrun, hv⟩ := h.2.lookup keyedS Tryd.underlying38 (nilBo W) (zd := .held (.bool false)) (zp := []) rfl hok
  rw [at_datM keyedS kS_inj h.1 hin] at hv
  unfold RV at hv
  simp at hv
  rw [hv.1] at hrun
  exact hrun

set_option maxRecDepth 20000 in
set_option maxHeartbeats 16000000 in
theorem walk_TreeSound (w : World) (A : Option Addr) (os : List Op8) (cap : Nat) (hr : RO w w.heap.size A os cap) (_hok : ∀ o ∈ os, o.ok) :
    Calls Tryd.prog 4 #[.slice A os.length cap] w fun e w' => e = .returned (.bool true) ∧ Below w.heap.size w w' := by
  obtain ⟨n1, hn1⟩ : ∃ n, os.length = n := ⟨_, rfl⟩
  rw [hn1]
  have HR := Lib.hid hr
  have HN1 := Lib.hid hn1
  have hl1 : n1 ≤ 9223372036854775807 := by have := hr.1; have := hr.2.1; unfold maxLen at this; omega
  have TK0 := Lib.hid True.intro
  obtain ⟨g1, hg1⟩ : ∃ g, great8 os = g := ⟨_, rfl⟩
  have HG1 := Lib.hid hg1
  clear hr _hok hn1 hg1
  cases g1 with
  | true =>
    go_enter Tryd.func4, Tryd.ntmps4
    go_wp2_with (first
      | (have hx := TK0; go_at_call 8; refine (speaks_any _).mono ?_; rintro e w0 ⟨rfl, g⟩; have G0 := Lib.hid g; clear g; clear hx TK0; have TK1 := Lib.hid True.intro)
      | (have hx := TK1; go_at_call 13; refine (great_any _ A os n1 cap HN1.out ((HR.out.below (below_of_none G0.out)).more G0.out.size)).mono ?_; rw [HG1.out]; rintro e wa ⟨rfl, g⟩; have G1 := Lib.hid (grown_trans' G0.out g); clear g; clear hx TK1; have TK2 := Lib.hid True.intro))
    go_ret
    exact ⟨rfl, below_of_none G1.out⟩
  | false =>
    have SM1 := Lib.hid (great8_no HG1.out).2
    go_enter Tryd.func4, Tryd.ntmps4
    go_wp2_with (first
      | (have hx := TK0; go_at_call 8; refine (speaks_any _).mono ?_; rintro e w0 ⟨rfl, g⟩; have G0 := Lib.hid g; clear g; clear hx TK0; have TK1 := Lib.hid True.intro)
      | (have hx := TK1; go_at_call 13; refine (great_any _ A os n1 cap HN1.out ((HR.out.below (below_of_none G0.out)).more G0.out.size)).mono ?_; rw [HG1.out]; rintro e wa ⟨rfl, g⟩; have G1 := Lib.hid (grown_trans' G0.out g); clear g; clear hx TK1; have TK2 := Lib.hid True.intro)
      | (have hx := TK2; go_at_call 9; refine (s_new _).mono ?_; rintro e w1 ⟨tb, mb, M0, rfl, t0, s0, g0⟩; have T1 := Lib.hid (t0.since G1.out); have S1 := Lib.hid s0; clear t0 g0 s0; clear hx TK2))
    go_loopw [19] (fun i wr => ∃ (k : Nat) (M : List (List UInt8 × Nd)), i = .int .i64 k ∧ k ≤ n1 ∧ Hid (TG w wr tb mb M) ∧ Hid (SndM M)) (fun i _ => n1 - (intOf i).toNat)
    case atStart => exact ⟨0, M0, rfl, Nat.zero_le _, T1.out, S1.out⟩
    case round =>
      obtain ⟨k, M, rfl, hk, HT, HS⟩ := hrel
      by_cases hlt : k < n1
      · have hki : (k : Int) < (n1 : Int) := by omega
        obtain ⟨b, off, rfl, hb, hc⟩ := HR.out.open_ (by rw [HN1.out]; omega)
        obtain ⟨o, ho⟩ : ∃ o, os[k]? = some o := ⟨_, List.getElem?_eq_getElem (by rw [HN1.out]; omega)⟩
        have HSZ := SM1.out o (List.mem_of_getElem? ho)
        have HPS := Lib.hid HSZ.path
        obtain ⟨V, c, r0, r1, r2, r3, r4, r5, hrb⟩ := hc k o ho
        have be := below_of_none HT.out.gr
        have q0 := (be.cell (p := ⟨b, off + k * 6, none⟩) hb).trans r0
        have q1 := (be.cell (p := ⟨b, off + k * 6 + 1, none⟩) hb).trans r1
        have q2 := (be.cell (p := ⟨b, off + k * 6 + 2, none⟩) hb).trans r2
        have q3 := (be.cell (p := ⟨b, off + k * 6 + 3, none⟩) hb).trans r3
        have q4 := (be.cell (p := ⟨b, off + k * 6 + 4, none⟩) hb).trans r4
        have q5 := (be.cell (p := ⟨b, off + k * 6 + 5, none⟩) hb).trans r5
        obtain ⟨ok, om, ow, opt, oo, ofb⟩ := o
        obtain ⟨ln, hln⟩ : ∃ ln, ofb.length = ln := ⟨_, rfl⟩
        simp only at q0 q1 q2 q3 q4 q5 hrb HPS
        rw [hln] at q5
        have HLN := Lib.hid hln
        clear ho hln hb
        have HWH := Lib.hid HSZ.who
        have HB : Hid (TG w (wr.alloc (.cells #[.int .i64 ok, .int .i64 om, .string ow, .string opt, .string oo, .slice V ln c] 36)) tb mb M) := HT.out.below ((Below.refl _ _).alloc (Nat.le_refl _) _)
        have HRB : Hid (RB (wr.alloc (.cells #[.int .i64 ok, .int .i64 om, .string ow, .string opt, .string oo, .slice V ln c] 36)) (wr.alloc (.cells #[.int .i64 ok, .int .i64 om, .string ow, .string opt, .string oo, .slice V ln c] 36)).heap.size V ofb c) := ((hrb.below be).more be.size).alloc (Nat.le_refl _) _ |>.more (by rw [World.size_alloc]; omega)
        rcases four_of ok with hz | hz | hz | hz
        · clear hc r0 r1 r2 r3 r4 r5 hrb be HSZ
          go_wp2_with (go_at_call 14; refine (c_remove HB.out HS.out ow opt HPS.out).mono ?_; rintro e w4 ⟨cc, M4, rfl, t4, s4⟩; have T4 := Lib.hid t4; have S4 := Lib.hid s4; clear t4 s4)
          go_roundw
          case rel => exact ⟨k + 1, M4, by go_num, by omega, T4.out, S4.out⟩
          case measure => simp [intOf]; omega
        · clear hc r0 r1 r2 r3 r4 r5 hrb be HSZ
          go_wp2_with (go_at_call 11; refine (c_write HB.out HS.out ow opt HWH.out HPS.out V ofb ln c HLN.out HRB.out om).mono ?_; rintro e w4 ⟨cc, M4, rfl, t4, s4⟩; have T4 := Lib.hid t4; have S4 := Lib.hid s4; clear t4 s4)
          go_roundw
          case rel => exact ⟨k + 1, M4, by go_num, by omega, T4.out, S4.out⟩
          case measure => simp [intOf]; omega
        · clear hc r0 r1 r2 r3 r4 r5 hrb be HSZ
          go_wp2_with (go_at_call 10; refine (c_mkdir HB.out HS.out ow opt HWH.out HPS.out om).mono ?_; rintro e w4 ⟨cc, M4, rfl, t4, s4⟩; have T4 := Lib.hid t4; have S4 := Lib.hid s4; clear t4 s4)
          go_roundw
          case rel => exact ⟨k + 1, M4, by go_num, by omega, T4.out, S4.out⟩
          case measure => simp [intOf]; omega
        · clear hc r0 r1 r2 r3 r4 r5 hrb be HSZ
          go_wp2_with (go_at_call 10; refine (c_mkdir HB.out HS.out ow opt HWH.out HPS.out om).mono ?_; rintro e w4 ⟨cc, M4, rfl, t4, s4⟩; have T4 := Lib.hid t4; have S4 := Lib.hid s4; clear t4 s4)
          go_roundw
          case rel => exact ⟨k + 1, M4, by go_num, by omega, T4.out, S4.out⟩
          case measure => simp [intOf]; omega
      · have hki : ¬ (k : Int) < (n1 : Int) := by omega
        have TK4 := Lib.hid True.intro
        have hmm := @run_makeMap Tryd.prog
        obtain ⟨db, hdb⟩ : ∃ db, db = wr.heap.size := ⟨_, rfl⟩
        have MD1 := Lib.hid (hdb ▸ MT.made (P := Tryd.prog) (k := 9) (kv := kS) (vv := bV) wr : MT Tryd.prog 9 kS bV (wr.alloc (.map #[] 0)) db [])
        have TA : Hid (TG w (wr.alloc (.map #[] 0)) tb mb M) := HT.out.below ((Below.refl _ _).alloc (Nat.le_refl _) _)
        have HDB := Lib.hid hdb
        clear hdb
        go_wp2_with (first
          | (have hx := TK4; go_at_call 15; refine (s_nodes TA.out HS.out).mono ?_; rintro e w3 ⟨ks, A3, n3, c3, ys, rfl, hbf⟩; have BF := Lib.hid hbf; have T3 := Lib.hid (TA.out.below (below_of_none hbf.gr)); have MD3 := Lib.hid (MD1.out.none hbf.gr); clear hbf; clear hx TK4))
        rw [← HDB.out]
        have hn3 : n3 ≤ 64 := by rw [← BF.out.len, BF.out.at_.1, BF.out.ls.1.length_eq]; have := HS.out.len; unfold keysM; rw [List.length_map]; exact this
        go_loopw [60] (fun i wi => ∃ j : Nat, i = .int .i64 j ∧ j ≤ n3 ∧ Hid (MT Tryd.prog 9 kS bV wi db (dirsOf M (ks.take j))) ∧ Hid (w3.grownBy wi (some db))) (fun i _ => n3 - (intOf i).toNat)
        case atStart => exact ⟨0, rfl, Nat.zero_le _, MD3.out, World.grownBy.refl _ _⟩
        case round =>
          rename World => wi
          obtain ⟨j, rfl, hj, HMD, HW⟩ := hrel
          by_cases hjl : j < n3
          · have hji : (j : Int) < (n3 : Int) := by omega
            obtain ⟨es, cl, hes⟩ := MD3.out.block
            have rowi := BF.out.row.row HW.out (BF.out.row.ne_map hes)
            have hks : ks.length = n3 := by rw [← BF.out.len, BF.out.at_.1]
            obtain ⟨x, hx⟩ : ∃ x, ks[j]? = some x := ⟨_, List.getElem?_eq_getElem (by omega)⟩
            obtain ⟨nd, l, dv, hnd, ho2, ho3, hy⟩ := BF.out.at_.2 j x _ hx (List.getElem?_eq_getElem (by rw [BF.out.len]; exact hjl))
            obtain ⟨Ad, cd, rfl, -, -⟩ := ho3.shape
            obtain ⟨Ax, cx, ex, sx, -⟩ := rowi.shape
            simp only [Value.slice.injEq] at ex
            obtain ⟨rfl, -, rfl⟩ := ex
            obtain ⟨b, off, rfl, hb, ec⟩ := sx.elem (k := j) (by rw [BF.out.len]; exact hjl)
            rw [hy] at ec
            obtain ⟨ln, hln⟩ : ∃ ln, l.length = ln := ⟨_, rfl⟩
            rw [hln, Nat.mul_comm 5 j] at ec
            have a0 : wi.cell? ⟨b, off + j * 5, none⟩ = some (.string ⟨x.toArray⟩) := ec 0 _ rfl
            have a1 : wi.cell? ⟨b, off + j * 5 + 1, none⟩ = some (.bool nd.dir) := ec 1 _ rfl
            have a2 : wi.cell? ⟨b, off + j * 5 + 2, none⟩ = some (.string nd.owner) := ec 2 _ rfl
            have a3 : wi.cell? ⟨b, off + j * 5 + 3, none⟩ = some (.int .i64 nd.mode) := ec 3 _ rfl
            have a4 : wi.cell? ⟨b, off + j * 5 + 4, none⟩ = some (.slice Ad ln cd) := ec 4 _ rfl
            have HLD := Lib.hid (show nd.dir = true → l.length = 0 from fun hd => by
              obtain ⟨Az, cz, hz⟩ := (HS.out.all _ _ (lookup_in hnd)).2.2.2 hd
              obtain ⟨Ay, cy, hy2, -, -⟩ := ho2.shape
              rw [hz] at hy2
              simp only [Value.slice.injEq] at hy2
              exact hy2.2.1.symm)
            have HND := Lib.hid (show ks.Nodup from BF.out.ls.1.symm.nodup T3.out.ts.tr.map.1.1)
            have HDM := Lib.hid (show isDirM M x = nd.dir by unfold isDirM; rw [hnd])
            have HLM := Lib.hid (show (dirsOf M (ks.take j)).length < maxLen by
              unfold dirsOf maxLen
              have h1 := List.length_filter_le (isDirM M) (ks.take j)
              rw [List.length_take] at h1
              rw [List.length_map]
              omega)
            have HDO := Lib.hid (dirs_out HND.out hx (M := M))
            have HDS := Lib.hid (dirs_succ hx (M := M))
            clear ec hy ho2 ho3 hes rowi
            have HXL := Lib.hid (show x.length ≤ 300 from (HS.out.all _ _ (lookup_in hnd)).2.1)
            have HPX := Lib.hid (show pathOk x = true from (HS.out.all _ _ (lookup_in hnd)).1)
            cases j with
            | zero =>
              have hx47 := head_top HS.out BF.out.ls hx
              subst hx47
              have hdir : nd.dir = true := by
                obtain ⟨tn, h1, h2⟩ := HS.out.top
                rw [hnd] at h1
                cases h1
                exact h2
              have hln0 : ln = 0 := by rw [← hln]; exact HLD.out hdir
              have e0 : ((0 : Nat) : Int) = 0 := rfl
              rw [hdir] at a1 HDM
              rw [hln0] at a4
              simp only [Nat.zero_mul, Nat.add_zero] at a0 a1 a2 a3 a4
              rw [e0]
              clear hnd hln hln0 hdir e0 sx hx HLD
              have PA := Lib.hid (fun W => path_any W ⟨#[47]⟩ [47] rfl (by decide))
              go_wp2
              obtain ⟨WA, hWA⟩ : ∃ WA, WA = wi.alloc (.cells #[.string ⟨#[47]⟩, .bool true, .string nd.owner, .int .i64 nd.mode, .slice Ad 0 cd] 42) := ⟨_, rfl⟩
              have hcb : CB WA wi.heap.size 42 [.string ⟨#[47]⟩, .bool true, .string nd.owner, .int .i64 nd.mode, .slice Ad 0 cd] := by rw [hWA]; exact CB.new wi _ _
              have hbA : Below wi.heap.size wi WA := by rw [hWA]; exact (Below.refl _ _).alloc (Nat.le_refl _) _
              have hsz : wi.heap.size < WA.heap.size := by rw [hWA, World.size_alloc]; omega
              have hdbl : db < wi.heap.size := HMD.out.lt
              have hS0 : BxS WA [(⟨wi.heap.size, 0, none⟩, .string ⟨#[47]⟩), (⟨wi.heap.size, 1, none⟩, .bool true), (⟨wi.heap.size, 4, none⟩, .slice Ad 0 cd)] db (dirsOf M (ks.take 0)) WA.drew := ⟨fun p hp => by
                simp only [List.mem_cons, List.not_mem_nil, or_false] at hp
                rcases hp with rfl | rfl | rfl
                · exact ⟨hsz, hcb.at_ (i := 0) rfl⟩
                · exact ⟨hsz, hcb.at_ (i := 1) rfl⟩
                · exact ⟨hsz, hcb.at_ (i := 4) rfl⟩, ⟨rfl, rfl, rfl, Nat.le_refl _, fun _ _ => rfl⟩, Nat.lt_trans hdbl hsz, HMD.out.below hdbl (show Below wi.heap.size wi WA.drew from ⟨hbA.os, hbA.tape, hbA.output, hbA.size, hbA.block⟩)⟩
              have HC0 := Lib.hid (fun (wx : World) (hx : BxS WA [(⟨wi.heap.size, 0, none⟩, .string ⟨#[47]⟩), (⟨wi.heap.size, 1, none⟩, .bool true), (⟨wi.heap.size, 4, none⟩, .slice Ad 0 cd)] db (dirsOf M (ks.take 0)) wx) => (hx.1 (⟨wi.heap.size, 0, none⟩, .string ⟨#[47]⟩) (by simp)).2)
              have HC1 := Lib.hid (fun (wx : World) (hx : BxS WA [(⟨wi.heap.size, 0, none⟩, .string ⟨#[47]⟩), (⟨wi.heap.size, 1, none⟩, .bool true), (⟨wi.heap.size, 4, none⟩, .slice Ad 0 cd)] db (dirsOf M (ks.take 0)) wx) => (hx.1 (⟨wi.heap.size, 1, none⟩, .bool true) (by simp)).2)
              have HC4 := Lib.hid (fun (wx : World) (hx : BxS WA [(⟨wi.heap.size, 0, none⟩, .string ⟨#[47]⟩), (⟨wi.heap.size, 1, none⟩, .bool true), (⟨wi.heap.size, 4, none⟩, .slice Ad 0 cd)] db (dirsOf M (ks.take 0)) wx) => (hx.1 (⟨wi.heap.size, 4, none⟩, .slice Ad 0 cd) (by simp)).2)
              have HWA := Lib.hid hWA
              have HBA := Lib.hid hbA
              rw [← hWA]
              clear hWA hcb hbA hsz hdbl a0 a1 a2 a3 a4
              refine helds_begin (BxS WA [(⟨wi.heap.size, 0, none⟩, .string ⟨#[47]⟩), (⟨wi.heap.size, 1, none⟩, .bool true), (⟨wi.heap.size, 4, none⟩, .slice Ad 0 cd)] db (dirsOf M (ks.take 0))) (by kernel_rfl) hS0 (fun _ => ?_)
              refine helds_take (i := 0) (d := some 65) (v := ?vzz_1) (by assumption) rfl rfl (by kernel_rfl) (fun _ _ _ h => h) ?yzz_1 ?_; case yzz_1 => (refine Or.inl ⟨rfl, fun wx hS => ?_⟩; go_simp; try with_reducible rfl)
              try simp only [Act.put, List.setIfInBounds_toArray, List.set_cons_zero, List.set_cons_succ]
              refine helds_take (i := 1) (d := some 66) (v := ?vzz_2) (by assumption) rfl rfl (by kernel_rfl) (fun _ _ _ h => h) ?yzz_2 ?_; case yzz_2 => (refine Or.inl ⟨rfl, fun wx hS => ?_⟩; go_simp; try with_reducible rfl)
              try simp only [Act.put, List.setIfInBounds_toArray, List.set_cons_zero, List.set_cons_succ]
              refine helds_take (i := 2) (d := some 67) (v := ?vzz_3) (by assumption) rfl rfl (by kernel_rfl) (fun _ _ _ h => h) ?yzz_3 ?_; case yzz_3 => (refine Or.inl ⟨rfl, fun wx hS => ?_⟩; go_simp; try with_reducible rfl)
              try simp only [Act.put, List.setIfInBounds_toArray, List.set_cons_zero, List.set_cons_succ]
              refine helds_skip (i := 3) (d := some 68) (by assumption) rfl rfl (by kernel_rfl) (fun _ _ _ h => h) rfl ?_
              try simp only [Act.put, List.setIfInBounds_toArray, List.set_cons_zero, List.set_cons_succ]
              refine helds_skip (i := 4) (d := some 69) (by assumption) rfl rfl (by kernel_rfl) (fun _ _ _ h => h) rfl ?_
              try simp only [Act.put, List.setIfInBounds_toArray, List.set_cons_zero, List.set_cons_succ]
              refine helds_skip (i := 5) (d := some 70) (by assumption) rfl rfl (by kernel_rfl) (fun _ _ _ h => h) rfl ?_
              try simp only [Act.put, List.setIfInBounds_toArray, List.set_cons_zero, List.set_cons_succ]
              refine helds_skip (i := 6) (d := some 71) (by assumption) rfl rfl (by kernel_rfl) (fun _ _ _ h => h) rfl ?_
              try simp only [Act.put, List.setIfInBounds_toArray, List.set_cons_zero, List.set_cons_succ]
              refine helds_skip (i := 7) (d := some 72) (by assumption) rfl rfl (by kernel_rfl) (fun _ _ _ h => h) rfl ?_
              try simp only [Act.put, List.setIfInBounds_toArray, List.set_cons_zero, List.set_cons_succ]
              refine helds_skip (i := 8) (d := some 73) (by assumption) rfl rfl (by kernel_rfl) (fun _ _ _ h => h) rfl ?_
              try simp only [Act.put, List.setIfInBounds_toArray, List.set_cons_zero, List.set_cons_succ]
              refine helds_skip (i := 9) (d := some 74) (by assumption) rfl rfl (by kernel_rfl) (fun _ _ _ h => h) rfl ?_
              try simp only [Act.put, List.setIfInBounds_toArray, List.set_cons_zero, List.set_cons_succ]
              refine helds_skip (i := 10) (d := some 75) (by assumption) rfl rfl (by kernel_rfl) (fun _ _ _ h => h) rfl ?_
              try simp only [Act.put, List.setIfInBounds_toArray, List.set_cons_zero, List.set_cons_succ]
              refine helds_skip (i := 11) (d := some 76) (by assumption) rfl rfl (by kernel_rfl) (fun _ _ _ h => h) rfl ?_
              try simp only [Act.put, List.setIfInBounds_toArray, List.set_cons_zero, List.set_cons_succ]
              refine helds_take (i := 12) (d := some 77) (v := ?vzz_13) (by assumption) rfl rfl (by kernel_rfl) (fun _ _ _ h => h) ?yzz_13 ?_; case yzz_13 => (refine Or.inl ⟨rfl, fun wx hS => ?_⟩; go_simp; try with_reducible rfl)
              try simp only [Act.put, List.setIfInBounds_toArray, List.set_cons_zero, List.set_cons_succ]
              refine helds_take (i := 13) (d := some 78) (v := ?vzz_14) (by assumption) rfl rfl (by kernel_rfl) (fun _ _ _ h => h) ?yzz_14 ?_; case yzz_14 => (refine Or.inl ⟨rfl, fun wx hS => ?_⟩; go_simp; try with_reducible rfl)
              try simp only [Act.put, List.setIfInBounds_toArray, List.set_cons_zero, List.set_cons_succ]
              refine helds_take (i := 14) (d := some 79) (v := ?vzz_15) (by assumption) rfl rfl (by kernel_rfl) (fun _ _ _ h => h) ?yzz_15 ?_; case yzz_15 => (refine Or.inl ⟨rfl, fun wx hS => ?_⟩; go_simp; try with_reducible rfl)
              try simp only [Act.put, List.setIfInBounds_toArray, List.set_cons_zero, List.set_cons_succ]
              refine helds_take (i := 15) (d := some 80) (v := ?vzz_16) (by assumption) rfl rfl (by kernel_rfl) (fun _ _ _ h => h) ?yzz_16 ?_; case yzz_16 => (refine Or.inl ⟨rfl, fun wx hS => ?_⟩; have hk := HC0.out wx hS; go_simp; try with_reducible rfl)
              try simp only [Act.put, List.setIfInBounds_toArray, List.set_cons_zero, List.set_cons_succ]
              refine helds_one (i := 16) rfl (by kernel_rfl) rfl (fun K hK => ?_)
              refine wp_callD (d := some 81) (f := 16) (args := #[.string ⟨#[47]⟩]) rfl (by first | rfl | go_simp) ?_
              refine (PA.out _).mono ?_
              rintro e w5 ⟨rfl, hb5⟩
              refine ⟨_, rfl, ?_⟩
              rw [HPX.out]
              have hS5 : BxS WA [(⟨wi.heap.size, 0, none⟩, .string ⟨#[47]⟩), (⟨wi.heap.size, 1, none⟩, .bool true), (⟨wi.heap.size, 4, none⟩, .slice Ad 0 cd)] db (dirsOf M (ks.take 0)) w5 := hS0.step hb5
              clear hb5
              refine hK.out _ _ (by assumption) (fun _ => ?_)
              clear hK K
              try simp only [Act.put, List.setIfInBounds_toArray, List.set_cons_zero, List.set_cons_succ]
              refine helds_take (i := 17) (d := some 82) (v := ?vzz_17) (by assumption) rfl rfl (by kernel_rfl) (fun _ _ _ h => h) ?yzz_17 ?_; case yzz_17 => (refine Or.inl ⟨rfl, fun wx hS => ?_⟩; go_simp; try with_reducible rfl)
              try simp only [Act.put, List.setIfInBounds_toArray, List.set_cons_zero, List.set_cons_succ]
              refine helds_take (i := 18) (d := some 83) (v := ?vzz_18) (by assumption) rfl rfl (by kernel_rfl) (fun _ _ _ h => h) ?yzz_18 ?_; case yzz_18 => (refine Or.inl ⟨rfl, fun wx hS => ?_⟩; go_simp; try with_reducible rfl)
              try simp only [Act.put, List.setIfInBounds_toArray, List.set_cons_zero, List.set_cons_succ]
              refine helds_take (i := 19) (d := some 84) (v := ?vzz_19) (by assumption) rfl rfl (by kernel_rfl) (fun _ _ _ h => h) ?yzz_19 ?_; case yzz_19 => (refine Or.inl ⟨rfl, fun wx hS => ?_⟩; go_simp; try with_reducible rfl)
              try simp only [Act.put, List.setIfInBounds_toArray, List.set_cons_zero, List.set_cons_succ]
              refine helds_take (i := 20) (d := some 85) (v := ?vzz_20) (by assumption) rfl rfl (by kernel_rfl) (fun _ _ _ h => h) ?yzz_20 ?_; case yzz_20 => (refine Or.inl ⟨rfl, fun wx hS => ?_⟩; go_simp; try with_reducible rfl)
              try simp only [Act.put, List.setIfInBounds_toArray, List.set_cons_zero, List.set_cons_succ]
              refine helds_take (i := 21) (d := some 86) (v := ?vzz_21) (by assumption) rfl rfl (by kernel_rfl) (fun _ _ _ h => h) ?yzz_21 ?_; case yzz_21 => (refine Or.inl ⟨rfl, fun wx hS => ?_⟩; have hk := HC0.out wx hS; go_simp; try with_reducible rfl)
              try simp only [Act.put, List.setIfInBounds_toArray, List.set_cons_zero, List.set_cons_succ]
              refine helds_take (i := 22) (d := some 87) (v := ?vzz_22) (by assumption) rfl rfl (by kernel_rfl) (fun _ _ _ h => h) ?yzz_22 ?_; case yzz_22 => (refine Or.inl ⟨rfl, fun wx hS => ?_⟩; go_simp; try with_reducible rfl)
              try simp only [Act.put, List.setIfInBounds_toArray, List.set_cons_zero, List.set_cons_succ]
              refine helds_take (i := 23) (d := some 88) (v := ?vzz_23) (by assumption) rfl rfl (by kernel_rfl) (fun _ _ _ h => h) ?yzz_23 ?_; case yzz_23 => (refine Or.inl ⟨rfl, fun wx hS => ?_⟩; go_simp; try with_reducible rfl)
              try simp only [Act.put, List.setIfInBounds_toArray, List.set_cons_zero, List.set_cons_succ]
              refine helds_skip (i := 24) (d := some 89) (by assumption) rfl rfl (by kernel_rfl) (fun _ _ _ h => h) rfl ?_
              try simp only [Act.put, List.setIfInBounds_toArray, List.set_cons_zero, List.set_cons_succ]
              refine helds_skip (i := 25) (d := some 90) (by assumption) rfl rfl (by kernel_rfl) (fun _ _ _ h => h) rfl ?_
              try simp only [Act.put, List.setIfInBounds_toArray, List.set_cons_zero, List.set_cons_succ]
              refine helds_skip (i := 26) (d := some 91) (by assumption) rfl rfl (by kernel_rfl) (fun _ _ _ h => h) rfl ?_
              try simp only [Act.put, List.setIfInBounds_toArray, List.set_cons_zero, List.set_cons_succ]
              refine helds_skip (i := 27) (d := some 92) (by assumption) rfl rfl (by kernel_rfl) (fun _ _ _ h => h) rfl ?_
              try simp only [Act.put, List.setIfInBounds_toArray, List.set_cons_zero, List.set_cons_succ]
              refine helds_skip (i := 28) (d := some 93) (by assumption) rfl rfl (by kernel_rfl) (fun _ _ _ h => h) rfl ?_
              try simp only [Act.put, List.setIfInBounds_toArray, List.set_cons_zero, List.set_cons_succ]
              refine helds_skip (i := 29) (d := some 94) (by assumption) rfl rfl (by kernel_rfl) (fun _ _ _ h => h) rfl ?_
              try simp only [Act.put, List.setIfInBounds_toArray, List.set_cons_zero, List.set_cons_succ]
              refine helds_take (i := 30) (d := some 95) (v := ?vzz_30) (by assumption) rfl rfl (by kernel_rfl) (fun _ _ _ h => h) ?yzz_30 ?_; case yzz_30 => (refine Or.inl ⟨rfl, fun wx hS => ?_⟩; go_simp; try with_reducible rfl)
              try simp only [Act.put, List.setIfInBounds_toArray, List.set_cons_zero, List.set_cons_succ]
              refine helds_take (i := 31) (d := some 96) (v := ?vzz_31) (by assumption) rfl rfl (by kernel_rfl) (fun _ _ _ h => h) ?yzz_31 ?_; case yzz_31 => (refine Or.inl ⟨rfl, fun wx hS => ?_⟩; go_simp; try with_reducible rfl)
              try simp only [Act.put, List.setIfInBounds_toArray, List.set_cons_zero, List.set_cons_succ]
              refine helds_take (i := 32) (d := some 97) (v := ?vzz_32) (by assumption) rfl rfl (by kernel_rfl) (fun _ _ _ h => h) ?yzz_32 ?_; case yzz_32 => (refine Or.inl ⟨rfl, fun wx hS => ?_⟩; go_simp; try with_reducible rfl)
              try simp only [Act.put, List.setIfInBounds_toArray, List.set_cons_zero, List.set_cons_succ]
              refine helds_take (i := 33) (d := some 98) (v := ?vzz_33) (by assumption) rfl rfl (by kernel_rfl) (fun _ _ _ h => h) ?yzz_33 ?_; case yzz_33 => (refine Or.inl ⟨rfl, fun wx hS => ?_⟩; go_simp; try with_reducible rfl)
              try simp only [Act.put, List.setIfInBounds_toArray, List.set_cons_zero, List.set_cons_succ]
              refine helds_take (i := 34) (d := some 99) (v := ?vzz_34) (by assumption) rfl rfl (by kernel_rfl) (fun _ _ _ h => h) ?yzz_34 ?_; case yzz_34 => (refine Or.inl ⟨rfl, fun wx hS => ?_⟩; have hk := HC1.out wx hS; go_simp; try with_reducible rfl)
              try simp only [Act.put, List.setIfInBounds_toArray, List.set_cons_zero, List.set_cons_succ]
              refine helds_take (i := 35) (d := some 100) (v := ?vzz_35) (by assumption) rfl rfl (by kernel_rfl) (fun _ _ _ h => h) ?yzz_35 ?_; case yzz_35 => (refine Or.inl ⟨rfl, fun wx hS => ?_⟩; go_simp; try with_reducible rfl)
              try simp only [Act.put, List.setIfInBounds_toArray, List.set_cons_zero, List.set_cons_succ]
              refine helds_take (i := 36) (d := some 101) (v := ?vzz_36) (by assumption) rfl rfl (by kernel_rfl) (fun _ _ _ h => h) ?yzz_36 ?_; case yzz_36 => (refine Or.inl ⟨rfl, fun wx hS => ?_⟩; go_simp; try with_reducible rfl)
              try simp only [Act.put, List.setIfInBounds_toArray, List.set_cons_zero, List.set_cons_succ]
              refine helds_take (i := 37) (d := some 102) (v := ?vzz_37) (by assumption) rfl rfl (by kernel_rfl) (fun _ _ _ h => h) ?yzz_37 ?_; case yzz_37 => (refine Or.inl ⟨rfl, fun wx hS => ?_⟩; have hk := HC4.out wx hS; go_simp; try with_reducible rfl)
              try simp only [Act.put, List.setIfInBounds_toArray, List.set_cons_zero, List.set_cons_succ]
              refine helds_take (i := 38) (d := some 103) (v := ?vzz_38) (by assumption) rfl rfl (by kernel_rfl) (fun _ _ _ h => h) ?yzz_38 ?_; case yzz_38 => (refine Or.inl ⟨rfl, fun wx hS => ?_⟩; go_simp; try with_reducible rfl)
              try simp only [Act.put, List.setIfInBounds_toArray, List.set_cons_zero, List.set_cons_succ]
              refine helds_take (i := 39) (d := some 104) (v := ?vzz_39) (by assumption) rfl rfl (by kernel_rfl) (fun _ _ _ h => h) ?yzz_39 ?_; case yzz_39 => (refine Or.inl ⟨rfl, fun wx hS => ?_⟩; go_simp; try with_reducible rfl)
              try simp only [Act.put, List.setIfInBounds_toArray, List.set_cons_zero, List.set_cons_succ]
              refine helds_take (i := 40) (d := some 105) (v := ?vzz_40) (by assumption) rfl rfl (by kernel_rfl) (fun _ _ _ h => h) ?yzz_40 ?_; case yzz_40 => (refine Or.inl ⟨rfl, fun wx hS => ?_⟩; go_simp; try with_reducible rfl)
              try simp only [Act.put, List.setIfInBounds_toArray, List.set_cons_zero, List.set_cons_succ]
              refine helds_take (i := 41) (d := some 106) (v := ?vzz_41) (by assumption) rfl rfl (by kernel_rfl) (fun _ _ _ h => h) ?yzz_41 ?_; case yzz_41 => (refine Or.inl ⟨rfl, fun wx hS => ?_⟩; go_simp; try with_reducible rfl)
              try simp only [Act.put, List.setIfInBounds_toArray, List.set_cons_zero, List.set_cons_succ]
              refine held_end (by kernel_rfl) ?_ _
              have c0 := HC0.out _ hS5
              have c1 := HC1.out _ hS5
              have MDW := Lib.hid hS5.2.2.2
              have HBW := Lib.hid hS5.2.1
              go_wp2_with (refine wpList_putM keyedS kS_inj rfl (.tmp 109) (.tmp 111) (.const (.bool true)) rfl Tryd.underlying38 MDW.out HLM.out rfl [47] true (okS [47] (by have := HXL.out; omega)) rfl rfl ?_; intro w7 h7 g7; rw [without_outB HDO.out] at h7; have M7 := Lib.hid h7; have G7 := Lib.hid g7.grown; clear h7 g7)
              go_roundw
              case rel => exact ⟨1, by go_num, by omega, by rw [HDS.out, HDM.out, if_pos rfl]; exact M7.out, HW.out.trans (((none_of_below (HBA.out.trans (HBW.out.mono HBA.out.size)) (Nat.le_refl _)).but (some db)).trans G7.out)⟩
              case measure => simp [intOf]; omega
            | succ j =>
              obtain ⟨xp, hxp⟩ : ∃ xp, ks[j]? = some xp := ⟨_, List.getElem?_eq_getElem (by omega)⟩
              obtain ⟨ndp, lp, dvp, -, -, ho4, hyp⟩ := BF.out.at_.2 j xp _ hxp (List.getElem?_eq_getElem (by rw [BF.out.len]; omega))
              obtain ⟨b', off', e', hbp', ecp⟩ := sx.elem (k := j) (by rw [BF.out.len]; omega)
              injection e' with e'
              injection e' with e1 e2
              subst e1 e2
              rw [hyp, Nat.mul_comm 5 j] at ecp
              have p0 : wi.cell? ⟨b, off + j * 5, none⟩ = some (.string ⟨xp.toArray⟩) := ecp 0 _ rfl
              have hbp := hb
              have hx47 : x ≠ [47] := by
                intro e
                obtain ⟨x0, hx0⟩ : ∃ x0, ks[0]? = some x0 := ⟨_, List.getElem?_eq_getElem (by omega)⟩
                have h0 := head_top HS.out BF.out.ls hx0
                obtain ⟨q1, q2⟩ := List.getElem?_eq_some_iff.1 hx
                obtain ⟨q3, q4⟩ := List.getElem?_eq_some_iff.1 hx0
                exact List.pairwise_iff_getElem.1 HND.out 0 (j + 1) q3 q1 (by omega) (by rw [q4, q2, h0, e])
              have hlt : xp < x := by
                obtain ⟨q1, q2⟩ := List.getElem?_eq_some_iff.1 hx
                obtain ⟨q3, q4⟩ := List.getElem?_eq_some_iff.1 hxp
                have := sorted_lt BF.out.ls.2 HND.out (Nat.lt_succ_self j) q1
                rw [q2, q4] at this
                exact this
              have hge : Op.bytesLess (⟨xp.toArray⟩ : ByteArray).toList (⟨x.toArray⟩ : ByteArray).toList = true := by rw [ByteArray.toList_eq, ByteArray.toList_eq]; exact bytesLess_of_lt hlt
              have hge2 : Op.bytesLess xp x = true := bytesLess_of_lt hlt
              clear hlt
              have HPB := Lib.hid (par_before HS.out BF.out.ls hx hx47)
              obtain ⟨pa, pb, hpab, hpb, -⟩ := parent_on HPX.out hx47
              have PR := Lib.hid (fun W => refParent_any ⟨x.toArray⟩ x pa pb rfl hpab hpb (show x.length ≤ 1000000 by have := HXL.out; omega) W)
              have n1 : (x == [47]) = false := beq_eq_false_iff_ne.2 hx47
              have n2 : ((⟨x.toArray⟩ : ByteArray).toList == [47]) = false := by rw [ByteArray.toList_eq]; exact n1
              have ej : ((j + 1 : Nat) : Int) = (j : Int) + 1 := rfl
              have hj0 : (0 : Int) < (j : Int) + 1 := by omega
              have hj1 : (j : Int) < (n3 : Int) := by omega
              have hj2 : (0 : Int) ≤ (j : Int) := by omega
              have hw1 : IntKind.i64.wrap ((j : Int) + 1 - 1) = (j : Int) := by rw [IntKind.wrap_i64]; omega
              have hw2 : IntKind.i64.wrap (j : Int) = (j : Int) := by rw [IntKind.wrap_i64]; omega
              have hw3 : (j : Int) + 1 - 1 = (j : Int) := by omega
              rw [ej] at hji
              rw [ej]
              clear hx hxp ho4 hyp hbp' ecp sx hnd hx47 hpab hpb ej
              cases hd : nd.dir with
              | true =>
                have hln0 : ln = 0 := by rw [← hln]; exact HLD.out hd
                rw [hd] at a1 HDM
                rw [hln0] at a4
                clear hln hln0 hd HLD
                have PA := Lib.hid (fun W => path_any W ⟨x.toArray⟩ x rfl (by have := HXL.out; omega))
                go_wp2
                obtain ⟨WA, hWA⟩ : ∃ WA, WA = wi.alloc (.cells #[.string ⟨x.toArray⟩, .bool true, .string nd.owner, .int .i64 nd.mode, .slice Ad 0 cd] 42) := ⟨_, rfl⟩
                have hcb : CB WA wi.heap.size 42 [.string ⟨x.toArray⟩, .bool true, .string nd.owner, .int .i64 nd.mode, .slice Ad 0 cd] := by rw [hWA]; exact CB.new wi _ _
                have hbA : Below wi.heap.size wi WA := by rw [hWA]; exact (Below.refl _ _).alloc (Nat.le_refl _) _
                have hsz : wi.heap.size < WA.heap.size := by rw [hWA, World.size_alloc]; omega
                have hdbl : db < wi.heap.size := HMD.out.lt
                have hS0 : BxS WA [(⟨wi.heap.size, 0, none⟩, .string ⟨x.toArray⟩), (⟨wi.heap.size, 1, none⟩, .bool true), (⟨wi.heap.size, 4, none⟩, .slice Ad 0 cd), (⟨b, off + j * 5, none⟩, .string ⟨xp.toArray⟩)] db (dirsOf M (ks.take (j + 1))) WA.drew := ⟨fun p hp => by
                  simp only [List.mem_cons, List.not_mem_nil, or_false] at hp
                  rcases hp with rfl | rfl | rfl | rfl
                  · exact ⟨hsz, hcb.at_ (i := 0) rfl⟩
                  · exact ⟨hsz, hcb.at_ (i := 1) rfl⟩
                  · exact ⟨hsz, hcb.at_ (i := 4) rfl⟩
                  · exact ⟨Nat.lt_trans hbp hsz, (hbA.cell (p := ⟨b, off + j * 5, none⟩) hbp).trans p0⟩, ⟨rfl, rfl, rfl, Nat.le_refl _, fun _ _ => rfl⟩, Nat.lt_trans hdbl hsz, HMD.out.below hdbl (show Below wi.heap.size wi WA.drew from ⟨hbA.os, hbA.tape, hbA.output, hbA.size, hbA.block⟩)⟩
                have HC0 := Lib.hid (fun (wx : World) (hx : BxS WA [(⟨wi.heap.size, 0, none⟩, .string ⟨x.toArray⟩), (⟨wi.heap.size, 1, none⟩, .bool true), (⟨wi.heap.size, 4, none⟩, .slice Ad 0 cd), (⟨b, off + j * 5, none⟩, .string ⟨xp.toArray⟩)] db (dirsOf M (ks.take (j + 1))) wx) => (hx.1 (⟨wi.heap.size, 0, none⟩, .string ⟨x.toArray⟩) (by simp)).2)
                have HC1 := Lib.hid (fun (wx : World) (hx : BxS WA [(⟨wi.heap.size, 0, none⟩, .string ⟨x.toArray⟩), (⟨wi.heap.size, 1, none⟩, .bool true), (⟨wi.heap.size, 4, none⟩, .slice Ad 0 cd), (⟨b, off + j * 5, none⟩, .string ⟨xp.toArray⟩)] db (dirsOf M (ks.take (j + 1))) wx) => (hx.1 (⟨wi.heap.size, 1, none⟩, .bool true) (by simp)).2)
                have HC4 := Lib.hid (fun (wx : World) (hx : BxS WA [(⟨wi.heap.size, 0, none⟩, .string ⟨x.toArray⟩), (⟨wi.heap.size, 1, none⟩, .bool true), (⟨wi.heap.size, 4, none⟩, .slice Ad 0 cd), (⟨b, off + j * 5, none⟩, .string ⟨xp.toArray⟩)] db (dirsOf M (ks.take (j + 1))) wx) => (hx.1 (⟨wi.heap.size, 4, none⟩, .slice Ad 0 cd) (by simp)).2)
                have HCP := Lib.hid (fun (wx : World) (hx : BxS WA [(⟨wi.heap.size, 0, none⟩, .string ⟨x.toArray⟩), (⟨wi.heap.size, 1, none⟩, .bool true), (⟨wi.heap.size, 4, none⟩, .slice Ad 0 cd), (⟨b, off + j * 5, none⟩, .string ⟨xp.toArray⟩)] db (dirsOf M (ks.take (j + 1))) wx) => (hx.1 (⟨b, off + j * 5, none⟩, .string ⟨xp.toArray⟩) (by simp)).2)
                have HLK := Lib.hid (fun (wx : World) (hx : BxS WA [(⟨wi.heap.size, 0, none⟩, .string ⟨x.toArray⟩), (⟨wi.heap.size, 1, none⟩, .bool true), (⟨wi.heap.size, 4, none⟩, .slice Ad 0 cd), (⟨b, off + j * 5, none⟩, .string ⟨xp.toArray⟩)] db (dirsOf M (ks.take (j + 1))) wx) => run_lookD hx.2.2.2 _ HPB.out)
                have HWA := Lib.hid hWA
                have HBA := Lib.hid hbA
                rw [← hWA]
                clear hWA hcb hbA hsz hdbl a0 a1 a2 a3 a4 p0 hbp
                refine helds_begin (BxS WA [(⟨wi.heap.size, 0, none⟩, .string ⟨x.toArray⟩), (⟨wi.heap.size, 1, none⟩, .bool true), (⟨wi.heap.size, 4, none⟩, .slice Ad 0 cd), (⟨b, off + j * 5, none⟩, .string ⟨xp.toArray⟩)] db (dirsOf M (ks.take (j + 1)))) (by kernel_rfl) hS0 (fun _ => ?_)
                refine helds_take (i := 0) (d := some 65) (v := ?vsa_1) (by assumption) rfl rfl (by kernel_rfl) (fun _ _ _ h => h) ?ysa_1 ?_; case ysa_1 => (refine Or.inl ⟨rfl, fun wx hS => ?_⟩; go_simp; try with_reducible rfl)
                try simp only [Act.put, List.setIfInBounds_toArray, List.set_cons_zero, List.set_cons_succ]
                refine helds_take (i := 1) (d := some 66) (v := ?vsa_2) (by assumption) rfl rfl (by kernel_rfl) (fun _ _ _ h => h) ?ysa_2 ?_; case ysa_2 => (refine Or.inl ⟨rfl, fun wx hS => ?_⟩; go_simp; try with_reducible rfl)
                try simp only [Act.put, List.setIfInBounds_toArray, List.set_cons_zero, List.set_cons_succ]
                refine helds_take (i := 2) (d := some 67) (v := ?vsa_3) (by assumption) rfl rfl (by kernel_rfl) (fun _ _ _ h => h) ?ysa_3 ?_; case ysa_3 => (refine Or.inl ⟨rfl, fun wx hS => ?_⟩; go_simp; try with_reducible rfl)
                try simp only [Act.put, List.setIfInBounds_toArray, List.set_cons_zero, List.set_cons_succ]
                refine helds_take (i := 3) (d := some 68) (v := ?vsa_4) (by assumption) rfl rfl (by kernel_rfl) (fun _ _ _ h => h) ?ysa_4 ?_; case ysa_4 => (refine Or.inl ⟨rfl, fun wx hS => ?_⟩; go_simp; try with_reducible rfl)
                try simp only [Act.put, List.setIfInBounds_toArray, List.set_cons_zero, List.set_cons_succ]
                refine helds_take (i := 4) (d := some 69) (v := ?vsa_5) (by assumption) rfl rfl (by kernel_rfl) (fun _ _ _ h => h) ?ysa_5 ?_; case ysa_5 => (refine Or.inl ⟨rfl, fun wx hS => ?_⟩; go_simp; try with_reducible rfl)
                try simp only [Act.put, List.setIfInBounds_toArray, List.set_cons_zero, List.set_cons_succ]
                refine helds_take (i := 5) (d := some 70) (v := ?vsa_6) (by assumption) rfl rfl (by kernel_rfl) (fun _ _ _ h => h) ?ysa_6 ?_; case ysa_6 => (refine Or.inl ⟨rfl, fun wx hS => ?_⟩; go_simp; try with_reducible rfl)
                try simp only [Act.put, List.setIfInBounds_toArray, List.set_cons_zero, List.set_cons_succ]
                refine helds_take (i := 6) (d := some 71) (v := ?vsa_7) (by assumption) rfl rfl (by kernel_rfl) (fun _ _ _ h => h) ?ysa_7 ?_; case ysa_7 => (refine Or.inl ⟨rfl, fun wx hS => ?_⟩; go_simp; try with_reducible rfl)
                try simp only [Act.put, List.setIfInBounds_toArray, List.set_cons_zero, List.set_cons_succ]
                refine helds_take (i := 7) (d := some 72) (v := ?vsa_8) (by assumption) rfl rfl (by kernel_rfl) (fun _ _ _ h => h) ?ysa_8 ?_; case ysa_8 => (refine Or.inl ⟨rfl, fun wx hS => ?_⟩; go_simp; try with_reducible rfl)
                try simp only [Act.put, List.setIfInBounds_toArray, List.set_cons_zero, List.set_cons_succ]
                refine helds_take (i := 8) (d := some 73) (v := ?vsa_9) (by assumption) rfl rfl (by kernel_rfl) (fun _ _ _ h => h) ?ysa_9 ?_; case ysa_9 => (refine Or.inl ⟨rfl, fun wx hS => ?_⟩; have hk := HCP.out wx hS; go_simp; try with_reducible rfl)
                try simp only [Act.put, List.setIfInBounds_toArray, List.set_cons_zero, List.set_cons_succ]
                refine helds_take (i := 9) (d := some 74) (v := ?vsa_10) (by assumption) rfl rfl (by kernel_rfl) (fun _ _ _ h => h) ?ysa_10 ?_; case ysa_10 => (refine Or.inl ⟨rfl, fun wx hS => ?_⟩; go_simp; try with_reducible rfl)
                try simp only [Act.put, List.setIfInBounds_toArray, List.set_cons_zero, List.set_cons_succ]
                refine helds_take (i := 10) (d := some 75) (v := ?vsa_11) (by assumption) rfl rfl (by kernel_rfl) (fun _ _ _ h => h) ?ysa_11 ?_; case ysa_11 => (refine Or.inl ⟨rfl, fun wx hS => ?_⟩; have hk := HC0.out wx hS; go_simp; try with_reducible rfl)
                try simp only [Act.put, List.setIfInBounds_toArray, List.set_cons_zero, List.set_cons_succ]
                refine helds_take (i := 11) (d := some 76) (v := ?vsa_12) (by assumption) rfl rfl (by kernel_rfl) (fun _ _ _ h => h) ?ysa_12 ?_; case ysa_12 => (refine Or.inl ⟨rfl, fun wx hS => ?_⟩; go_simp; try with_reducible rfl)
                try simp only [Act.put, List.setIfInBounds_toArray, List.set_cons_zero, List.set_cons_succ]
                refine helds_take (i := 12) (d := some 77) (v := ?vsa_13) (by assumption) rfl rfl (by kernel_rfl) (fun _ _ _ h => h) ?ysa_13 ?_; case ysa_13 => (refine Or.inl ⟨rfl, fun wx hS => ?_⟩; go_simp; try with_reducible rfl)
                try simp only [Act.put, List.setIfInBounds_toArray, List.set_cons_zero, List.set_cons_succ]
                refine helds_take (i := 13) (d := some 78) (v := ?vsa_14) (by assumption) rfl rfl (by kernel_rfl) (fun _ _ _ h => h) ?ysa_14 ?_; case ysa_14 => (refine Or.inl ⟨rfl, fun wx hS => ?_⟩; go_simp; try with_reducible rfl)
                try simp only [Act.put, List.setIfInBounds_toArray, List.set_cons_zero, List.set_cons_succ]
                refine helds_take (i := 14) (d := some 79) (v := ?vsa_15) (by assumption) rfl rfl (by kernel_rfl) (fun _ _ _ h => h) ?ysa_15 ?_; case ysa_15 => (refine Or.inl ⟨rfl, fun wx hS => ?_⟩; go_simp; try with_reducible rfl)
                try simp only [Act.put, List.setIfInBounds_toArray, List.set_cons_zero, List.set_cons_succ]
                refine helds_take (i := 15) (d := some 80) (v := ?vsa_16) (by assumption) rfl rfl (by kernel_rfl) (fun _ _ _ h => h) ?ysa_16 ?_; case ysa_16 => (refine Or.inl ⟨rfl, fun wx hS => ?_⟩; have hk := HC0.out wx hS; go_simp; try with_reducible rfl)
                try simp only [Act.put, List.setIfInBounds_toArray, List.set_cons_zero, List.set_cons_succ]
                refine helds_one (i := 16) rfl (by kernel_rfl) rfl (fun K hK => ?_)
                refine wp_callD (d := some 81) (f := 16) (args := #[.string ⟨x.toArray⟩]) rfl (by first | rfl | go_simp) ?_
                refine (PA.out _).mono ?_
                rintro e w5 ⟨rfl, hb5⟩
                refine ⟨_, rfl, ?_⟩
                rw [HPX.out]
                have hS5 : BxS WA [(⟨wi.heap.size, 0, none⟩, .string ⟨x.toArray⟩), (⟨wi.heap.size, 1, none⟩, .bool true), (⟨wi.heap.size, 4, none⟩, .slice Ad 0 cd), (⟨b, off + j * 5, none⟩, .string ⟨xp.toArray⟩)] db (dirsOf M (ks.take (j + 1))) w5 := hS0.step hb5
                clear hb5
                refine hK.out _ _ (by assumption) (fun _ => ?_)
                clear hK K
                try simp only [Act.put, List.setIfInBounds_toArray, List.set_cons_zero, List.set_cons_succ]
                refine helds_take (i := 17) (d := some 82) (v := ?vsa_17) (by assumption) rfl rfl (by kernel_rfl) (fun _ _ _ h => h) ?ysa_17 ?_; case ysa_17 => (refine Or.inl ⟨rfl, fun wx hS => ?_⟩; go_simp; try with_reducible rfl)
                try simp only [Act.put, List.setIfInBounds_toArray, List.set_cons_zero, List.set_cons_succ]
                refine helds_take (i := 18) (d := some 83) (v := ?vsa_18) (by assumption) rfl rfl (by kernel_rfl) (fun _ _ _ h => h) ?ysa_18 ?_; case ysa_18 => (refine Or.inl ⟨rfl, fun wx hS => ?_⟩; go_simp; try with_reducible rfl)
                try simp only [Act.put, List.setIfInBounds_toArray, List.set_cons_zero, List.set_cons_succ]
                refine helds_take (i := 19) (d := some 84) (v := ?vsa_19) (by assumption) rfl rfl (by kernel_rfl) (fun _ _ _ h => h) ?ysa_19 ?_; case ysa_19 => (refine Or.inl ⟨rfl, fun wx hS => ?_⟩; go_simp; try with_reducible rfl)
                try simp only [Act.put, List.setIfInBounds_toArray, List.set_cons_zero, List.set_cons_succ]
                refine helds_take (i := 20) (d := some 85) (v := ?vsa_20) (by assumption) rfl rfl (by kernel_rfl) (fun _ _ _ h => h) ?ysa_20 ?_; case ysa_20 => (refine Or.inl ⟨rfl, fun wx hS => ?_⟩; go_simp; try with_reducible rfl)
                try simp only [Act.put, List.setIfInBounds_toArray, List.set_cons_zero, List.set_cons_succ]
                refine helds_take (i := 21) (d := some 86) (v := ?vsa_21) (by assumption) rfl rfl (by kernel_rfl) (fun _ _ _ h => h) ?ysa_21 ?_; case ysa_21 => (refine Or.inl ⟨rfl, fun wx hS => ?_⟩; have hk := HC0.out wx hS; go_simp; try with_reducible rfl)
                try simp only [Act.put, List.setIfInBounds_toArray, List.set_cons_zero, List.set_cons_succ]
                refine helds_take (i := 22) (d := some 87) (v := ?vsa_22) (by assumption) rfl rfl (by kernel_rfl) (fun _ _ _ h => h) ?ysa_22 ?_; case ysa_22 => (refine Or.inl ⟨rfl, fun wx hS => ?_⟩; go_simp; try with_reducible rfl)
                try simp only [Act.put, List.setIfInBounds_toArray, List.set_cons_zero, List.set_cons_succ]
                refine helds_take (i := 23) (d := some 88) (v := ?vsa_23) (by assumption) rfl rfl (by kernel_rfl) (fun _ _ _ h => h) ?ysa_23 ?_; case ysa_23 => (refine Or.inl ⟨rfl, fun wx hS => ?_⟩; go_simp; try with_reducible rfl)
                try simp only [Act.put, List.setIfInBounds_toArray, List.set_cons_zero, List.set_cons_succ]
                refine helds_take (i := 24) (d := some 89) (v := ?vsa_24) (by assumption) rfl rfl (by kernel_rfl) (fun _ _ _ h => h) ?ysa_24 ?_; case ysa_24 => (refine Or.inl ⟨rfl, fun wx hS => ?_⟩; go_simp; try with_reducible rfl)
                try simp only [Act.put, List.setIfInBounds_toArray, List.set_cons_zero, List.set_cons_succ]
                refine helds_take (i := 25) (d := some 90) (v := ?vsa_25) (by assumption) rfl rfl (by kernel_rfl) (fun _ _ _ h => h) ?ysa_25 ?_; case ysa_25 => (refine Or.inl ⟨rfl, fun wx hS => ?_⟩; go_simp; try with_reducible rfl)
                try simp only [Act.put, List.setIfInBounds_toArray, List.set_cons_zero, List.set_cons_succ]
                refine helds_take (i := 26) (d := some 91) (v := ?vsa_26) (by assumption) rfl rfl (by kernel_rfl) (fun _ _ _ h => h) ?ysa_26 ?_; case ysa_26 => (refine Or.inl ⟨rfl, fun wx hS => ?_⟩; have hk := HC0.out wx hS; go_simp; try with_reducible rfl)
                try simp only [Act.put, List.setIfInBounds_toArray, List.set_cons_zero, List.set_cons_succ]
                refine helds_one (i := 27) rfl (by kernel_rfl) rfl (fun K hK => ?_)
                refine wp_callD (d := some 92) (f := 17) (args := #[.string ⟨x.toArray⟩]) rfl (by first | rfl | go_simp) ?_
                refine (PR.out _).mono ?_
                rintro e w6 ⟨rfl, rfl⟩
                refine ⟨_, rfl, ?_⟩
                refine hK.out _ _ (by assumption) (fun _ => ?_)
                clear hK K
                try simp only [Act.put, List.setIfInBounds_toArray, List.set_cons_zero, List.set_cons_succ]
                refine helds_take (i := 28) (d := some 93) (v := ?vsa_27) (by assumption) rfl rfl (by kernel_rfl) (fun _ _ _ h => h) ?ysa_27 ?_; case ysa_27 => (refine Or.inl ⟨rfl, fun wx hS => ?_⟩; have hk := HLK.out wx hS; go_simp; try with_reducible rfl)
                try simp only [Act.put, List.setIfInBounds_toArray, List.set_cons_zero, List.set_cons_succ]
                refine helds_take (i := 29) (d := some 94) (v := ?vsa_28) (by assumption) rfl rfl (by kernel_rfl) (fun _ _ _ h => h) ?ysa_28 ?_; case ysa_28 => (refine Or.inl ⟨rfl, fun wx hS => ?_⟩; go_simp; try with_reducible rfl)
                try simp only [Act.put, List.setIfInBounds_toArray, List.set_cons_zero, List.set_cons_succ]
                refine helds_take (i := 30) (d := some 95) (v := ?vsa_29) (by assumption) rfl rfl (by kernel_rfl) (fun _ _ _ h => h) ?ysa_29 ?_; case ysa_29 => (refine Or.inl ⟨rfl, fun wx hS => ?_⟩; go_simp; try with_reducible rfl)
                try simp only [Act.put, List.setIfInBounds_toArray, List.set_cons_zero, List.set_cons_succ]
                refine helds_take (i := 31) (d := some 96) (v := ?vsa_30) (by assumption) rfl rfl (by kernel_rfl) (fun _ _ _ h => h) ?ysa_30 ?_; case ysa_30 => (refine Or.inl ⟨rfl, fun wx hS => ?_⟩; go_simp; try with_reducible rfl)
                try simp only [Act.put, List.setIfInBounds_toArray, List.set_cons_zero, List.set_cons_succ]
                refine helds_take (i := 32) (d := some 97) (v := ?vsa_31) (by assumption) rfl rfl (by kernel_rfl) (fun _ _ _ h => h) ?ysa_31 ?_; case ysa_31 => (refine Or.inl ⟨rfl, fun wx hS => ?_⟩; go_simp; try with_reducible rfl)
                try simp only [Act.put, List.setIfInBounds_toArray, List.set_cons_zero, List.set_cons_succ]
                refine helds_take (i := 33) (d := some 98) (v := ?vsa_32) (by assumption) rfl rfl (by kernel_rfl) (fun _ _ _ h => h) ?ysa_32 ?_; case ysa_32 => (refine Or.inl ⟨rfl, fun wx hS => ?_⟩; go_simp; try with_reducible rfl)
                try simp only [Act.put, List.setIfInBounds_toArray, List.set_cons_zero, List.set_cons_succ]
                refine helds_take (i := 34) (d := some 99) (v := ?vsa_33) (by assumption) rfl rfl (by kernel_rfl) (fun _ _ _ h => h) ?ysa_33 ?_; case ysa_33 => (refine Or.inl ⟨rfl, fun wx hS => ?_⟩; have hk := HC1.out wx hS; go_simp; try with_reducible rfl)
                try simp only [Act.put, List.setIfInBounds_toArray, List.set_cons_zero, List.set_cons_succ]
                refine helds_take (i := 35) (d := some 100) (v := ?vsa_34) (by assumption) rfl rfl (by kernel_rfl) (fun _ _ _ h => h) ?ysa_34 ?_; case ysa_34 => (refine Or.inl ⟨rfl, fun wx hS => ?_⟩; go_simp; try with_reducible rfl)
                try simp only [Act.put, List.setIfInBounds_toArray, List.set_cons_zero, List.set_cons_succ]
                refine helds_take (i := 36) (d := some 101) (v := ?vsa_35) (by assumption) rfl rfl (by kernel_rfl) (fun _ _ _ h => h) ?ysa_35 ?_; case ysa_35 => (refine Or.inl ⟨rfl, fun wx hS => ?_⟩; go_simp; try with_reducible rfl)
                try simp only [Act.put, List.setIfInBounds_toArray, List.set_cons_zero, List.set_cons_succ]
                refine helds_take (i := 37) (d := some 102) (v := ?vsa_36) (by assumption) rfl rfl (by kernel_rfl) (fun _ _ _ h => h) ?ysa_36 ?_; case ysa_36 => (refine Or.inl ⟨rfl, fun wx hS => ?_⟩; have hk := HC4.out wx hS; go_simp; try with_reducible rfl)
                try simp only [Act.put, List.setIfInBounds_toArray, List.set_cons_zero, List.set_cons_succ]
                refine helds_take (i := 38) (d := some 103) (v := ?vsa_37) (by assumption) rfl rfl (by kernel_rfl) (fun _ _ _ h => h) ?ysa_37 ?_; case ysa_37 => (refine Or.inl ⟨rfl, fun wx hS => ?_⟩; go_simp; try with_reducible rfl)
                try simp only [Act.put, List.setIfInBounds_toArray, List.set_cons_zero, List.set_cons_succ]
                refine helds_take (i := 39) (d := some 104) (v := ?vsa_38) (by assumption) rfl rfl (by kernel_rfl) (fun _ _ _ h => h) ?ysa_38 ?_; case ysa_38 => (refine Or.inl ⟨rfl, fun wx hS => ?_⟩; go_simp; try with_reducible rfl)
                try simp only [Act.put, List.setIfInBounds_toArray, List.set_cons_zero, List.set_cons_succ]
                refine helds_take (i := 40) (d := some 105) (v := ?vsa_39) (by assumption) rfl rfl (by kernel_rfl) (fun _ _ _ h => h) ?ysa_39 ?_; case ysa_39 => (refine Or.inl ⟨rfl, fun wx hS => ?_⟩; go_simp; try with_reducible rfl)
                try simp only [Act.put, List.setIfInBounds_toArray, List.set_cons_zero, List.set_cons_succ]
                refine helds_take (i := 41) (d := some 106) (v := ?vsa_40) (by assumption) rfl rfl (by kernel_rfl) (fun _ _ _ h => h) ?ysa_40 ?_; case ysa_40 => (refine Or.inl ⟨rfl, fun wx hS => ?_⟩; go_simp; try with_reducible rfl)
                try simp only [Act.put, List.setIfInBounds_toArray, List.set_cons_zero, List.set_cons_succ]
                refine held_end (by kernel_rfl) ?_ _
                have c0 := HC0.out _ hS5
                have c1 := HC1.out _ hS5
                have MDW := Lib.hid hS5.2.2.2
                have HBW := Lib.hid hS5.2.1
                go_wp2_with (refine wpList_putM keyedS kS_inj rfl (.tmp 109) (.tmp 111) (.const (.bool true)) rfl Tryd.underlying38 MDW.out HLM.out rfl x true (okS x (by have := HXL.out; omega)) rfl rfl ?_; intro w7 h7 g7; rw [without_outB HDO.out] at h7; have M7 := Lib.hid h7; have G7 := Lib.hid g7.grown; clear h7 g7)
                go_roundw
                case rel => exact ⟨(j + 2), by go_num, by omega, by rw [HDS.out, HDM.out, if_pos rfl]; exact M7.out, HW.out.trans (((none_of_below (HBA.out.trans (HBW.out.mono HBA.out.size)) (Nat.le_refl _)).but (some db)).trans G7.out)⟩
                case measure => simp [intOf]; omega
              | false =>
                rw [hd] at a1 HDM
                clear hln hd HLD
                have PA := Lib.hid (fun W => path_any W ⟨x.toArray⟩ x rfl (by have := HXL.out; omega))
                go_wp2
                obtain ⟨WA, hWA⟩ : ∃ WA, WA = wi.alloc (.cells #[.string ⟨x.toArray⟩, .bool false, .string nd.owner, .int .i64 nd.mode, .slice Ad ln cd] 42) := ⟨_, rfl⟩
                have hcb : CB WA wi.heap.size 42 [.string ⟨x.toArray⟩, .bool false, .string nd.owner, .int .i64 nd.mode, .slice Ad ln cd] := by rw [hWA]; exact CB.new wi _ _
                have hbA : Below wi.heap.size wi WA := by rw [hWA]; exact (Below.refl _ _).alloc (Nat.le_refl _) _
                have hsz : wi.heap.size < WA.heap.size := by rw [hWA, World.size_alloc]; omega
                have hdbl : db < wi.heap.size := HMD.out.lt
                have hS0 : BxS WA [(⟨wi.heap.size, 0, none⟩, .string ⟨x.toArray⟩), (⟨wi.heap.size, 1, none⟩, .bool false), (⟨wi.heap.size, 4, none⟩, .slice Ad ln cd), (⟨b, off + j * 5, none⟩, .string ⟨xp.toArray⟩)] db (dirsOf M (ks.take (j + 1))) WA.drew := ⟨fun p hp => by
                  simp only [List.mem_cons, List.not_mem_nil, or_false] at hp
                  rcases hp with rfl | rfl | rfl | rfl
                  · exact ⟨hsz, hcb.at_ (i := 0) rfl⟩
                  · exact ⟨hsz, hcb.at_ (i := 1) rfl⟩
                  · exact ⟨hsz, hcb.at_ (i := 4) rfl⟩
                  · exact ⟨Nat.lt_trans hbp hsz, (hbA.cell (p := ⟨b, off + j * 5, none⟩) hbp).trans p0⟩, ⟨rfl, rfl, rfl, Nat.le_refl _, fun _ _ => rfl⟩, Nat.lt_trans hdbl hsz, HMD.out.below hdbl (show Below wi.heap.size wi WA.drew from ⟨hbA.os, hbA.tape, hbA.output, hbA.size, hbA.block⟩)⟩
                have HC0 := Lib.hid (fun (wx : World) (hx : BxS WA [(⟨wi.heap.size, 0, none⟩, .string ⟨x.toArray⟩), (⟨wi.heap.size, 1, none⟩, .bool false), (⟨wi.heap.size, 4, none⟩, .slice Ad ln cd), (⟨b, off + j * 5, none⟩, .string ⟨xp.toArray⟩)] db (dirsOf M (ks.take (j + 1))) wx) => (hx.1 (⟨wi.heap.size, 0, none⟩, .string ⟨x.toArray⟩) (by simp)).2)
                have HC1 := Lib.hid (fun (wx : World) (hx : BxS WA [(⟨wi.heap.size, 0, none⟩, .string ⟨x.toArray⟩), (⟨wi.heap.size, 1, none⟩, .bool false), (⟨wi.heap.size, 4, none⟩, .slice Ad ln cd), (⟨b, off + j * 5, none⟩, .string ⟨xp.toArray⟩)] db (dirsOf M (ks.take (j + 1))) wx) => (hx.1 (⟨wi.heap.size, 1, none⟩, .bool false) (by simp)).2)
                have HC4 := Lib.hid (fun (wx : World) (hx : BxS WA [(⟨wi.heap.size, 0, none⟩, .string ⟨x.toArray⟩), (⟨wi.heap.size, 1, none⟩, .bool false), (⟨wi.heap.size, 4, none⟩, .slice Ad ln cd), (⟨b, off + j * 5, none⟩, .string ⟨xp.toArray⟩)] db (dirsOf M (ks.take (j + 1))) wx) => (hx.1 (⟨wi.heap.size, 4, none⟩, .slice Ad ln cd) (by simp)).2)
                have HCP := Lib.hid (fun (wx : World) (hx : BxS WA [(⟨wi.heap.size, 0, none⟩, .string ⟨x.toArray⟩), (⟨wi.heap.size, 1, none⟩, .bool false), (⟨wi.heap.size, 4, none⟩, .slice Ad ln cd), (⟨b, off + j * 5, none⟩, .string ⟨xp.toArray⟩)] db (dirsOf M (ks.take (j + 1))) wx) => (hx.1 (⟨b, off + j * 5, none⟩, .string ⟨xp.toArray⟩) (by simp)).2)
                have HLK := Lib.hid (fun (wx : World) (hx : BxS WA [(⟨wi.heap.size, 0, none⟩, .string ⟨x.toArray⟩), (⟨wi.heap.size, 1, none⟩, .bool false), (⟨wi.heap.size, 4, none⟩, .slice Ad ln cd), (⟨b, off + j * 5, none⟩, .string ⟨xp.toArray⟩)] db (dirsOf M (ks.take (j + 1))) wx) => run_lookD hx.2.2.2 _ HPB.out)
                have HWA := Lib.hid hWA
                have HBA := Lib.hid hbA
                rw [← hWA]
                clear hWA hcb hbA hsz hdbl a0 a1 a2 a3 a4 p0 hbp
                refine helds_begin (BxS WA [(⟨wi.heap.size, 0, none⟩, .string ⟨x.toArray⟩), (⟨wi.heap.size, 1, none⟩, .bool false), (⟨wi.heap.size, 4, none⟩, .slice Ad ln cd), (⟨b, off + j * 5, none⟩, .string ⟨xp.toArray⟩)] db (dirsOf M (ks.take (j + 1)))) (by kernel_rfl) hS0 (fun _ => ?_)
                refine helds_take (i := 0) (d := some 65) (v := ?vsb_1) (by assumption) rfl rfl (by kernel_rfl) (fun _ _ _ h => h) ?ysb_1 ?_; case ysb_1 => (refine Or.inl ⟨rfl, fun wx hS => ?_⟩; go_simp; try with_reducible rfl)
                try simp only [Act.put, List.setIfInBounds_toArray, List.set_cons_zero, List.set_cons_succ]
                refine helds_take (i := 1) (d := some 66) (v := ?vsb_2) (by assumption) rfl rfl (by kernel_rfl) (fun _ _ _ h => h) ?ysb_2 ?_; case ysb_2 => (refine Or.inl ⟨rfl, fun wx hS => ?_⟩; go_simp; try with_reducible rfl)
                try simp only [Act.put, List.setIfInBounds_toArray, List.set_cons_zero, List.set_cons_succ]
                refine helds_take (i := 2) (d := some 67) (v := ?vsb_3) (by assumption) rfl rfl (by kernel_rfl) (fun _ _ _ h => h) ?ysb_3 ?_; case ysb_3 => (refine Or.inl ⟨rfl, fun wx hS => ?_⟩; go_simp; try with_reducible rfl)
                try simp only [Act.put, List.setIfInBounds_toArray, List.set_cons_zero, List.set_cons_succ]
                refine helds_take (i := 3) (d := some 68) (v := ?vsb_4) (by assumption) rfl rfl (by kernel_rfl) (fun _ _ _ h => h) ?ysb_4 ?_; case ysb_4 => (refine Or.inl ⟨rfl, fun wx hS => ?_⟩; go_simp; try with_reducible rfl)
                try simp only [Act.put, List.setIfInBounds_toArray, List.set_cons_zero, List.set_cons_succ]
                refine helds_take (i := 4) (d := some 69) (v := ?vsb_5) (by assumption) rfl rfl (by kernel_rfl) (fun _ _ _ h => h) ?ysb_5 ?_; case ysb_5 => (refine Or.inl ⟨rfl, fun wx hS => ?_⟩; go_simp; try with_reducible rfl)
                try simp only [Act.put, List.setIfInBounds_toArray, List.set_cons_zero, List.set_cons_succ]
                refine helds_take (i := 5) (d := some 70) (v := ?vsb_6) (by assumption) rfl rfl (by kernel_rfl) (fun _ _ _ h => h) ?ysb_6 ?_; case ysb_6 => (refine Or.inl ⟨rfl, fun wx hS => ?_⟩; go_simp; try with_reducible rfl)
                try simp only [Act.put, List.setIfInBounds_toArray, List.set_cons_zero, List.set_cons_succ]
                refine helds_take (i := 6) (d := some 71) (v := ?vsb_7) (by assumption) rfl rfl (by kernel_rfl) (fun _ _ _ h => h) ?ysb_7 ?_; case ysb_7 => (refine Or.inl ⟨rfl, fun wx hS => ?_⟩; go_simp; try with_reducible rfl)
                try simp only [Act.put, List.setIfInBounds_toArray, List.set_cons_zero, List.set_cons_succ]
                refine helds_take (i := 7) (d := some 72) (v := ?vsb_8) (by assumption) rfl rfl (by kernel_rfl) (fun _ _ _ h => h) ?ysb_8 ?_; case ysb_8 => (refine Or.inl ⟨rfl, fun wx hS => ?_⟩; go_simp; try with_reducible rfl)
                try simp only [Act.put, List.setIfInBounds_toArray, List.set_cons_zero, List.set_cons_succ]
                refine helds_take (i := 8) (d := some 73) (v := ?vsb_9) (by assumption) rfl rfl (by kernel_rfl) (fun _ _ _ h => h) ?ysb_9 ?_; case ysb_9 => (refine Or.inl ⟨rfl, fun wx hS => ?_⟩; have hk := HCP.out wx hS; go_simp; try with_reducible rfl)
                try simp only [Act.put, List.setIfInBounds_toArray, List.set_cons_zero, List.set_cons_succ]
                refine helds_take (i := 9) (d := some 74) (v := ?vsb_10) (by assumption) rfl rfl (by kernel_rfl) (fun _ _ _ h => h) ?ysb_10 ?_; case ysb_10 => (refine Or.inl ⟨rfl, fun wx hS => ?_⟩; go_simp; try with_reducible rfl)
                try simp only [Act.put, List.setIfInBounds_toArray, List.set_cons_zero, List.set_cons_succ]
                refine helds_take (i := 10) (d := some 75) (v := ?vsb_11) (by assumption) rfl rfl (by kernel_rfl) (fun _ _ _ h => h) ?ysb_11 ?_; case ysb_11 => (refine Or.inl ⟨rfl, fun wx hS => ?_⟩; have hk := HC0.out wx hS; go_simp; try with_reducible rfl)
                try simp only [Act.put, List.setIfInBounds_toArray, List.set_cons_zero, List.set_cons_succ]
                refine helds_take (i := 11) (d := some 76) (v := ?vsb_12) (by assumption) rfl rfl (by kernel_rfl) (fun _ _ _ h => h) ?ysb_12 ?_; case ysb_12 => (refine Or.inl ⟨rfl, fun wx hS => ?_⟩; go_simp; try with_reducible rfl)
                try simp only [Act.put, List.setIfInBounds_toArray, List.set_cons_zero, List.set_cons_succ]
                refine helds_take (i := 12) (d := some 77) (v := ?vsb_13) (by assumption) rfl rfl (by kernel_rfl) (fun _ _ _ h => h) ?ysb_13 ?_; case ysb_13 => (refine Or.inl ⟨rfl, fun wx hS => ?_⟩; go_simp; try with_reducible rfl)
                try simp only [Act.put, List.setIfInBounds_toArray, List.set_cons_zero, List.set_cons_succ]
                refine helds_take (i := 13) (d := some 78) (v := ?vsb_14) (by assumption) rfl rfl (by kernel_rfl) (fun _ _ _ h => h) ?ysb_14 ?_; case ysb_14 => (refine Or.inl ⟨rfl, fun wx hS => ?_⟩; go_simp; try with_reducible rfl)
                try simp only [Act.put, List.setIfInBounds_toArray, List.set_cons_zero, List.set_cons_succ]
                refine helds_take (i := 14) (d := some 79) (v := ?vsb_15) (by assumption) rfl rfl (by kernel_rfl) (fun _ _ _ h => h) ?ysb_15 ?_; case ysb_15 => (refine Or.inl ⟨rfl, fun wx hS => ?_⟩; go_simp; try with_reducible rfl)
                try simp only [Act.put, List.setIfInBounds_toArray, List.set_cons_zero, List.set_cons_succ]
                refine helds_take (i := 15) (d := some 80) (v := ?vsb_16) (by assumption) rfl rfl (by kernel_rfl) (fun _ _ _ h => h) ?ysb_16 ?_; case ysb_16 => (refine Or.inl ⟨rfl, fun wx hS => ?_⟩; have hk := HC0.out wx hS; go_simp; try with_reducible rfl)
                try simp only [Act.put, List.setIfInBounds_toArray, List.set_cons_zero, List.set_cons_succ]
                refine helds_one (i := 16) rfl (by kernel_rfl) rfl (fun K hK => ?_)
                refine wp_callD (d := some 81) (f := 16) (args := #[.string ⟨x.toArray⟩]) rfl (by first | rfl | go_simp) ?_
                refine (PA.out _).mono ?_
                rintro e w5 ⟨rfl, hb5⟩
                refine ⟨_, rfl, ?_⟩
                rw [HPX.out]
                have hS5 : BxS WA [(⟨wi.heap.size, 0, none⟩, .string ⟨x.toArray⟩), (⟨wi.heap.size, 1, none⟩, .bool false), (⟨wi.heap.size, 4, none⟩, .slice Ad ln cd), (⟨b, off + j * 5, none⟩, .string ⟨xp.toArray⟩)] db (dirsOf M (ks.take (j + 1))) w5 := hS0.step hb5
                clear hb5
                refine hK.out _ _ (by assumption) (fun _ => ?_)
                clear hK K
                try simp only [Act.put, List.setIfInBounds_toArray, List.set_cons_zero, List.set_cons_succ]
                refine helds_take (i := 17) (d := some 82) (v := ?vsb_17) (by assumption) rfl rfl (by kernel_rfl) (fun _ _ _ h => h) ?ysb_17 ?_; case ysb_17 => (refine Or.inl ⟨rfl, fun wx hS => ?_⟩; go_simp; try with_reducible rfl)
                try simp only [Act.put, List.setIfInBounds_toArray, List.set_cons_zero, List.set_cons_succ]
                refine helds_take (i := 18) (d := some 83) (v := ?vsb_18) (by assumption) rfl rfl (by kernel_rfl) (fun _ _ _ h => h) ?ysb_18 ?_; case ysb_18 => (refine Or.inl ⟨rfl, fun wx hS => ?_⟩; go_simp; try with_reducible rfl)
                try simp only [Act.put, List.setIfInBounds_toArray, List.set_cons_zero, List.set_cons_succ]
                refine helds_take (i := 19) (d := some 84) (v := ?vsb_19) (by assumption) rfl rfl (by kernel_rfl) (fun _ _ _ h => h) ?ysb_19 ?_; case ysb_19 => (refine Or.inl ⟨rfl, fun wx hS => ?_⟩; go_simp; try with_reducible rfl)
                try simp only [Act.put, List.setIfInBounds_toArray, List.set_cons_zero, List.set_cons_succ]
                refine helds_take (i := 20) (d := some 85) (v := ?vsb_20) (by assumption) rfl rfl (by kernel_rfl) (fun _ _ _ h => h) ?ysb_20 ?_; case ysb_20 => (refine Or.inl ⟨rfl, fun wx hS => ?_⟩; go_simp; try with_reducible rfl)
                try simp only [Act.put, List.setIfInBounds_toArray, List.set_cons_zero, List.set_cons_succ]
                refine helds_take (i := 21) (d := some 86) (v := ?vsb_21) (by assumption) rfl rfl (by kernel_rfl) (fun _ _ _ h => h) ?ysb_21 ?_; case ysb_21 => (refine Or.inl ⟨rfl, fun wx hS => ?_⟩; have hk := HC0.out wx hS; go_simp; try with_reducible rfl)
                try simp only [Act.put, List.setIfInBounds_toArray, List.set_cons_zero, List.set_cons_succ]
                refine helds_take (i := 22) (d := some 87) (v := ?vsb_22) (by assumption) rfl rfl (by kernel_rfl) (fun _ _ _ h => h) ?ysb_22 ?_; case ysb_22 => (refine Or.inl ⟨rfl, fun wx hS => ?_⟩; go_simp; try with_reducible rfl)
                try simp only [Act.put, List.setIfInBounds_toArray, List.set_cons_zero, List.set_cons_succ]
                refine helds_take (i := 23) (d := some 88) (v := ?vsb_23) (by assumption) rfl rfl (by kernel_rfl) (fun _ _ _ h => h) ?ysb_23 ?_; case ysb_23 => (refine Or.inl ⟨rfl, fun wx hS => ?_⟩; go_simp; try with_reducible rfl)
                try simp only [Act.put, List.setIfInBounds_toArray, List.set_cons_zero, List.set_cons_succ]
                refine helds_take (i := 24) (d := some 89) (v := ?vsb_24) (by assumption) rfl rfl (by kernel_rfl) (fun _ _ _ h => h) ?ysb_24 ?_; case ysb_24 => (refine Or.inl ⟨rfl, fun wx hS => ?_⟩; go_simp; try with_reducible rfl)
                try simp only [Act.put, List.setIfInBounds_toArray, List.set_cons_zero, List.set_cons_succ]
                refine helds_take (i := 25) (d := some 90) (v := ?vsb_25) (by assumption) rfl rfl (by kernel_rfl) (fun _ _ _ h => h) ?ysb_25 ?_; case ysb_25 => (refine Or.inl ⟨rfl, fun wx hS => ?_⟩; go_simp; try with_reducible rfl)
                try simp only [Act.put, List.setIfInBounds_toArray, List.set_cons_zero, List.set_cons_succ]
                refine helds_take (i := 26) (d := some 91) (v := ?vsb_26) (by assumption) rfl rfl (by kernel_rfl) (fun _ _ _ h => h) ?ysb_26 ?_; case ysb_26 => (refine Or.inl ⟨rfl, fun wx hS => ?_⟩; have hk := HC0.out wx hS; go_simp; try with_reducible rfl)
                try simp only [Act.put, List.setIfInBounds_toArray, List.set_cons_zero, List.set_cons_succ]
                refine helds_one (i := 27) rfl (by kernel_rfl) rfl (fun K hK => ?_)
                refine wp_callD (d := some 92) (f := 17) (args := #[.string ⟨x.toArray⟩]) rfl (by first | rfl | go_simp) ?_
                refine (PR.out _).mono ?_
                rintro e w6 ⟨rfl, rfl⟩
                refine ⟨_, rfl, ?_⟩
                refine hK.out _ _ (by assumption) (fun _ => ?_)
                clear hK K
                try simp only [Act.put, List.setIfInBounds_toArray, List.set_cons_zero, List.set_cons_succ]
                refine helds_take (i := 28) (d := some 93) (v := ?vsb_27) (by assumption) rfl rfl (by kernel_rfl) (fun _ _ _ h => h) ?ysb_27 ?_; case ysb_27 => (refine Or.inl ⟨rfl, fun wx hS => ?_⟩; have hk := HLK.out wx hS; go_simp; try with_reducible rfl)
                try simp only [Act.put, List.setIfInBounds_toArray, List.set_cons_zero, List.set_cons_succ]
                refine helds_take (i := 29) (d := some 94) (v := ?vsb_28) (by assumption) rfl rfl (by kernel_rfl) (fun _ _ _ h => h) ?ysb_28 ?_; case ysb_28 => (refine Or.inl ⟨rfl, fun wx hS => ?_⟩; go_simp; try with_reducible rfl)
                try simp only [Act.put, List.setIfInBounds_toArray, List.set_cons_zero, List.set_cons_succ]
                refine helds_take (i := 30) (d := some 95) (v := ?vsb_29) (by assumption) rfl rfl (by kernel_rfl) (fun _ _ _ h => h) ?ysb_29 ?_; case ysb_29 => (refine Or.inl ⟨rfl, fun wx hS => ?_⟩; go_simp; try with_reducible rfl)
                try simp only [Act.put, List.setIfInBounds_toArray, List.set_cons_zero, List.set_cons_succ]
                refine helds_take (i := 31) (d := some 96) (v := ?vsb_30) (by assumption) rfl rfl (by kernel_rfl) (fun _ _ _ h => h) ?ysb_30 ?_; case ysb_30 => (refine Or.inl ⟨rfl, fun wx hS => ?_⟩; go_simp; try with_reducible rfl)
                try simp only [Act.put, List.setIfInBounds_toArray, List.set_cons_zero, List.set_cons_succ]
                refine helds_take (i := 32) (d := some 97) (v := ?vsb_31) (by assumption) rfl rfl (by kernel_rfl) (fun _ _ _ h => h) ?ysb_31 ?_; case ysb_31 => (refine Or.inl ⟨rfl, fun wx hS => ?_⟩; go_simp; try with_reducible rfl)
                try simp only [Act.put, List.setIfInBounds_toArray, List.set_cons_zero, List.set_cons_succ]
                refine helds_take (i := 33) (d := some 98) (v := ?vsb_32) (by assumption) rfl rfl (by kernel_rfl) (fun _ _ _ h => h) ?ysb_32 ?_; case ysb_32 => (refine Or.inl ⟨rfl, fun wx hS => ?_⟩; go_simp; try with_reducible rfl)
                try simp only [Act.put, List.setIfInBounds_toArray, List.set_cons_zero, List.set_cons_succ]
                refine helds_take (i := 34) (d := some 99) (v := ?vsb_33) (by assumption) rfl rfl (by kernel_rfl) (fun _ _ _ h => h) ?ysb_33 ?_; case ysb_33 => (refine Or.inl ⟨rfl, fun wx hS => ?_⟩; have hk := HC1.out wx hS; go_simp; try with_reducible rfl)
                try simp only [Act.put, List.setIfInBounds_toArray, List.set_cons_zero, List.set_cons_succ]
                refine helds_take (i := 35) (d := some 100) (v := ?vsb_34) (by assumption) rfl rfl (by kernel_rfl) (fun _ _ _ h => h) ?ysb_34 ?_; case ysb_34 => (refine Or.inl ⟨rfl, fun wx hS => ?_⟩; go_simp; try with_reducible rfl)
                try simp only [Act.put, List.setIfInBounds_toArray, List.set_cons_zero, List.set_cons_succ]
                refine helds_skip (i := 36) (d := some 101) (by assumption) rfl rfl (by kernel_rfl) (fun _ _ _ h => h) rfl ?_
                try simp only [Act.put, List.setIfInBounds_toArray, List.set_cons_zero, List.set_cons_succ]
                refine helds_skip (i := 37) (d := some 102) (by assumption) rfl rfl (by kernel_rfl) (fun _ _ _ h => h) rfl ?_
                try simp only [Act.put, List.setIfInBounds_toArray, List.set_cons_zero, List.set_cons_succ]
                refine helds_skip (i := 38) (d := some 103) (by assumption) rfl rfl (by kernel_rfl) (fun _ _ _ h => h) rfl ?_
                try simp only [Act.put, List.setIfInBounds_toArray, List.set_cons_zero, List.set_cons_succ]
                refine helds_skip (i := 39) (d := some 104) (by assumption) rfl rfl (by kernel_rfl) (fun _ _ _ h => h) rfl ?_
                try simp only [Act.put, List.setIfInBounds_toArray, List.set_cons_zero, List.set_cons_succ]
                refine helds_take (i := 40) (d := some 105) (v := ?vsb_39) (by assumption) rfl rfl (by kernel_rfl) (fun _ _ _ h => h) ?ysb_39 ?_; case ysb_39 => (refine Or.inl ⟨rfl, fun wx hS => ?_⟩; go_simp; try with_reducible rfl)
                try simp only [Act.put, List.setIfInBounds_toArray, List.set_cons_zero, List.set_cons_succ]
                refine helds_take (i := 41) (d := some 106) (v := ?vsb_40) (by assumption) rfl rfl (by kernel_rfl) (fun _ _ _ h => h) ?ysb_40 ?_; case ysb_40 => (refine Or.inl ⟨rfl, fun wx hS => ?_⟩; go_simp; try with_reducible rfl)
                try simp only [Act.put, List.setIfInBounds_toArray, List.set_cons_zero, List.set_cons_succ]
                refine held_end (by kernel_rfl) ?_ _
                have c0 := HC0.out _ hS5
                have c1 := HC1.out _ hS5
                have MDW := Lib.hid hS5.2.2.2
                have HBW := Lib.hid hS5.2.1
                go_wp2
                go_roundw
                case rel => exact ⟨(j + 2), by go_num, by omega, by rw [HDS.out, HDM.out, if_neg (by decide), List.append_nil]; exact MDW.out, HW.out.trans ((none_of_below (HBA.out.trans (HBW.out.mono HBA.out.size)) (Nat.le_refl _)).but (some db))⟩
                case measure => simp [intOf]; omega
          · have hji : ¬ (j : Int) < (n3 : Int) := by omega
            obtain ⟨es, cl, hes⟩ := MD3.out.block
            have rowi := BF.out.row.row HW.out (BF.out.row.ne_map hes)
            have hks : ks.length = n3 := by rw [← BF.out.len, BF.out.at_.1]
            have hpos : 0 < n3 := by
              obtain ⟨tn, h1, -⟩ := HS.out.top
              have h2 := BF.out.ls.1.mem_iff.2 (mem_keysM.2 ⟨tn, lookup_in h1⟩)
              rw [← hks]
              exact List.length_pos_of_mem h2
            obtain ⟨x, hx⟩ : ∃ x, ks[0]? = some x := ⟨_, List.getElem?_eq_getElem (by omega)⟩
            obtain ⟨nd, l, dv, -, -, -, hy⟩ := BF.out.at_.2 0 x _ hx (List.getElem?_eq_getElem (by rw [BF.out.len]; exact hpos))
            have hx47 := head_top HS.out BF.out.ls hx
            subst hx47
            obtain ⟨Ax, cx, ex, sx, -⟩ := rowi.shape
            simp only [Value.slice.injEq] at ex
            obtain ⟨rfl, -, rfl⟩ := ex
            obtain ⟨b, off, rfl, hb, ec⟩ := sx.elem (k := 0) (by rw [BF.out.len]; exact hpos)
            rw [hy] at ec
            have a0 : wi.cell? ⟨b, off, none⟩ = some (.string ⟨#[47]⟩) := ec 0 _ rfl
            have h1i : (1 : Int) ≤ (n3 : Int) := by omega
            have h64 : (n3 : Int) ≤ 64 := by omega
            have h0i : (0 : Int) < (n3 : Int) := by omega
            have HGR := Lib.hid (none_of T3.out.gr HW.out (by rw [HDB.out]; exact HT.out.gr.size))
            clear hes rowi hks hx hy sx hb ec cl es
            go_wp2
            go_ret
            exact ⟨rfl, below_of_none HGR.out⟩
end Go.Proofs.YtmbmahpklkcioaaDoor
