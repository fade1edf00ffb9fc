/- The walk of ShellPure. -/
import Derived.Test.YtlkchajkhplapaaGreatDoorSkq
namespace Go.Proofs.YtlkchajkhplapaaGreatDoor
open Go.RowKit Go.Maps Go.WideMaps

theorem line_err {R0 R : Value → List UInt8 → Prop} {M M' : Tr} {who : ByteArray} {line out err : List UInt8} {code : Nat} (h : LineR R0 R M who line out err code M') : err = [] ∨ (out = [] ∧ code ≠ 0) := by
  unfold LineR at h
  by_cases h80 : 80 < line.length
  · rw [if_pos h80] at h
    exact .inl h.2.1
  rw [if_neg h80] at h
  cases hw : wds (pieces1 32 line) with
  | nil => rw [hw] at h; exact .inl h.2.1
  | cons c xs =>
    rw [hw] at h
    have h : CmdR R0 R M who c xs out err code M' := h
    unfold CmdR at h
    by_cases h1 : (usageF c xs).1 = false
    · rw [if_pos h1] at h
      exact .inr ⟨h.1, by rw [h.2.2]; decide⟩
    rw [if_neg h1] at h
    by_cases h2 : (usageF c xs).2 = false
    · rw [if_pos h2] at h
      exact .inr ⟨h.1, by rw [h.2.2]; decide⟩
    rw [if_neg h2] at h
    by_cases h3 : c = cEcho
    · rw [if_pos h3] at h; exact .inl h.2.1
    rw [if_neg h3] at h
    by_cases h4 : c = cWhoami
    · rw [if_pos h4] at h; exact .inl h.2.1
    rw [if_neg h4] at h
    by_cases h5 : c = cExit
    · rw [if_pos h5] at h; exact .inl h.2.1
    rw [if_neg h5] at h
    by_cases h6 : treeC M who c xs ≠ 0
    · rw [if_pos h6] at h
      exact .inr ⟨h.1, by rw [h.2.2]; decide⟩
    rw [if_neg h6] at h
    exact .inl h.1
theorem quiet_nil {line : List UInt8} {code : Nat} (hw : wds (pieces1 32 line) = []) : ¬ loudL line code := by
  rintro ⟨-, c', xs', h1, h2⟩
  rw [hw] at h1
  cases h1
theorem quiet_code {line : List UInt8} {code : Nat} (hc : code ≠ 0) : ¬ loudL line code := fun h => hc h.1
theorem looks_quiet {c : List UInt8} (h : c = cEcho ∨ c = cCat ∨ c = cLs ∨ c = cWhoami ∨ c = cExit) : ¬ loudC c := by
  unfold loudC
  rcases h with rfl | rfl | rfl | rfl | rfl <;> decide
set_option maxRecDepth 20000 in
set_option maxHeartbeats 64000000 in
theorem walk_ShellPure (w : World) (htab : TI w) (A : Option Addr) (ls : List Ln) (cap : Nat) (hr : RLn w A ls cap) (_hok : ∀ l ∈ ls, True) (A' : Option Addr) (ls' : List Ln) (cap' : Nat) (hr' : RLn w A' ls' cap') (_hok' : ∀ l ∈ ls', True) :
    Calls Tryz.prog 5 #[.slice A ls.length cap, .slice A' ls'.length cap'] w fun e w' => e = .returned (.bool true) ∧ Below w.heap.size w w' := by
  obtain ⟨n, hn⟩ : ∃ n, ls.length = n := ⟨_, rfl⟩
  obtain ⟨m, hm⟩ : ∃ m, ls'.length = m := ⟨_, rfl⟩
  rw [hn, hm]
  have HR := Lib.hid hr
  have HN := Lib.hid hn
  have HR' := Lib.hid hr'
  have HM := Lib.hid hm
  have HTI := Lib.hid htab
  have SP := Lib.hid (shspeaks_any w htab)
  have GR := Lib.hid (fun (W : World) (hg : w.grownBy W none) => greatL_any W A ls n cap hn (hr.made (below_of_none hg)))
  have GR' := Lib.hid (fun (W : World) (hg : w.grownBy W none) => greatL_any W A' ls' m cap' hm (hr'.made (below_of_none hg)))
  obtain ⟨gb, hgb⟩ : ∃ g, greatL ls = g := ⟨_, rfl⟩
  obtain ⟨gc, hgc⟩ : ∃ g, greatL ls' = g := ⟨_, rfl⟩
  rw [hgb] at GR
  rw [hgc] at GR'
  have HGB := Lib.hid hgb
  have HGC := Lib.hid hgc
  have hl1 : n ≤ 9223372036854775807 := by have h1 := hr.1; have := hr.2.1; rw [List.length_map] at h1; unfold maxLen at this; omega
  have hl2 : m ≤ 9223372036854775807 := by have h1 := hr'.1; have := hr'.2.1; rw [List.length_map] at h1; unfold maxLen at this; omega
  have TK0 := Lib.hid True.intro
  clear hr _hok hn htab hgb hr' _hok' hm hgc
  cases gb with
  | true =>
    go_enter Tryz.func5, Tryz.ntmps5
    go_wp2_with (first
      | (go_at_call 30; refine SP.out.mono ?_; rintro e w0 ⟨rfl, g0⟩; have G0 := Lib.hid g0; clear g0)
      | (have hx := TK0; clear hx TK0; go_at_call 33; refine (GR.out _ G0.out).mono ?_; rintro e w1 ⟨rfl, g1⟩; have G1 := Lib.hid (grown_trans' G0.out g1); clear g1))
    go_ret
    exact ⟨rfl, below_of_none G1.out⟩
  | false =>
  cases gc with
  | true =>
    go_enter Tryz.func5, Tryz.ntmps5
    go_wp2_with (first
      | (go_at_call 30; refine SP.out.mono ?_; rintro e w0 ⟨rfl, g0⟩; have G0 := Lib.hid g0; clear g0)
      | (have hx := TK0; clear hx TK0; go_at_call 33; refine (GR.out _ G0.out).mono ?_; rintro e w1 ⟨rfl, g1⟩; have G1 := Lib.hid (grown_trans' G0.out g1); clear g1)
      | (go_at_call 33; refine (GR'.out _ G1.out).mono ?_; rintro e w2 ⟨rfl, g2⟩; have G2 := Lib.hid (grown_trans' G1.out g2); clear g2))
    go_ret
    exact ⟨rfl, below_of_none G2.out⟩
  | false =>
  have HSM := Lib.hid (greatL_no HGB.out)
  have HSM' := Lib.hid (greatL_no HGC.out)
  go_enter Tryz.func5, Tryz.ntmps5
  go_wp2_with (first
    | (go_at_call 30; refine SP.out.mono ?_; rintro e w0 ⟨rfl, g0⟩; have G0 := Lib.hid g0; clear g0)
    | (have hx := TK0; clear hx TK0; go_at_call 33; refine (GR.out _ G0.out).mono ?_; rintro e w1 ⟨rfl, g1⟩; have G1 := Lib.hid (grown_trans' G0.out g1); clear g1)
    | (go_at_call 33; refine (GR'.out _ G1.out).mono ?_; rintro e w2 ⟨rfl, g2⟩; have G2 := Lib.hid (grown_trans' G1.out g2); clear g2)
    | (go_at_call 15; refine (new_any _).mono ?_; rintro e w3 ⟨tb, mb, b, rfl, t0⟩; have T3 := Lib.hid t0; clear t0)
    | (go_at_call 34; refine (snew_any T3.out).mono ?_; rintro e w4 ⟨sb, rfl, sg4⟩; have S4 := Lib.hid sg4; clear sg4))
  have HT2 := Lib.hid (HTI.out.on G2.out)
  go_loopw [32] (fun iv wr => ∃ (i : Nat) (M : Tr), iv = .int .i64 i ∧ i ≤ n ∧ Hid (SG w2 wr sb tb mb M i) ∧ Hid (SndM M)) (fun iv _ => n - (intOf iv).toNat)
  case atStart => exact ⟨0, _, rfl, Nat.zero_le _, S4.out, snd0 b⟩
  case round =>
    obtain ⟨i, M, rfl, hi, HS, HD⟩ := hrel
    have HGW := Lib.hid (grown_trans' G2.out HS.out.tg.gr)
    by_cases hlt : i < n
    · have hii : (i : Int) < (n : Int) := by omega
      obtain ⟨o, ho⟩ : ∃ o, ls[i]? = some o := ⟨_, List.getElem?_eq_getElem (by rw [HN.out]; exact hlt)⟩
      obtain ⟨bk, off, rfl, hb, hc⟩ := HR.out.at_ ho
      have be := below_of_none HGW.out
      have q0 : wr.cell? ⟨bk, off + i * 2, none⟩ = some (.string o.who) := (be.cell (p := ⟨bk, off + i * 2, none⟩) hb).trans (hc 0 _ rfl)
      have q1 : wr.cell? ⟨bk, off + i * 2 + 1, none⟩ = some (.string o.line) := (be.cell (p := ⟨bk, off + i * 2 + 1, none⟩) hb).trans (hc 1 _ rfl)
      have HOS := Lib.hid (HSM.out.2 o (List.mem_of_getElem? ho))
      have HNI := Lib.hid (show i ≤ 60 by have := HSM.out.1; have := HN.out; omega)
      clear hc ho hb be
      obtain ⟨ow, ol⟩ := o
      simp only at q0 q1 HOS
      go_wp2_with (go_at_call 35
                   refine (run_any (HS.out.made (grown_alloc wr (.cells #[.string ow, .string ol] 55) none)) HD.out (by have := HNI.out; omega) HT2.out ow HOS.out.1 ol _ rfl (by have := HOS.out.2; have : ol.data.toList.length = ol.size := rfl; omega)).mono ?_
                   rintro e x1 ⟨ov, ev, out, err, code, M', rfl, -, -, sg, sn, -, -, -⟩
                   have S5 := Lib.hid sg
                   have N5 := Lib.hid sn
                   clear sg sn)
      go_roundw
      case rel => exact ⟨i + 1, M', by go_num, by omega, S5.out, N5.out⟩
      case measure => simp [intOf]; omega
    · have hii : ¬ (i : Int) < (n : Int) := by omega
      obtain rfl : i = n := by omega
      go_wp2
      go_loopw [45] (fun iv wr => ∃ (j : Nat) (M : Tr), iv = .int .i64 j ∧ j ≤ m ∧ Hid (SG w2 wr sb tb mb M (i + j)) ∧ Hid (SndM M)) (fun iv _ => m - (intOf iv).toNat)
      case atStart => exact ⟨0, M, rfl, Nat.zero_le _, HS.out, HD.out⟩
      case round =>
        clear HS HD HGW
        obtain ⟨j, M, rfl, hj, HS, HD⟩ := hrel
        have HGW := Lib.hid (grown_trans' G2.out HS.out.tg.gr)
        by_cases hlt2 : j < m
        · have hji : (j : Int) < (m : Int) := by omega
          obtain ⟨o, ho⟩ : ∃ o, ls'[j]? = some o := ⟨_, List.getElem?_eq_getElem (by rw [HM.out]; exact hlt2)⟩
          obtain ⟨bk, off, rfl, hb, hc⟩ := HR'.out.at_ ho
          have be := below_of_none HGW.out
          have q0 : wr.cell? ⟨bk, off + j * 2, none⟩ = some (.string o.who) := (be.cell (p := ⟨bk, off + j * 2, none⟩) hb).trans (hc 0 _ rfl)
          have q1 : wr.cell? ⟨bk, off + j * 2 + 1, none⟩ = some (.string o.line) := (be.cell (p := ⟨bk, off + j * 2 + 1, none⟩) hb).trans (hc 1 _ rfl)
          have HOS := Lib.hid (HSM'.out.2 o (List.mem_of_getElem? ho))
          have HNI := Lib.hid (show i + j ≤ 120 by have := HSM.out.1; have := HN.out; have := HSM'.out.1; have := HM.out; omega)
          clear hc ho hb be
          obtain ⟨ow, ol⟩ := o
          simp only at q0 q1 HOS
          obtain ⟨y0, hy0⟩ : ∃ x, x = wr.alloc (.cells #[.string ow, .string ol] 55) := ⟨_, rfl⟩
          have GA := Lib.hid (show wr.grownBy y0 none by rw [hy0]; exact grown_alloc _ _ _)
          have CA := Lib.hid (show CB y0 wr.heap.size 55 [.string ow, .string ol] by rw [hy0]; exact CB.new _ _ _)
          have HY0 := Lib.hid hy0
          have SA := Lib.hid (HS.out.made GA.out)
          obtain ⟨l, hl⟩ : ∃ l, ol.data.toList = l := ⟨_, rfl⟩
          have HL := Lib.hid hl
          have HLL := Lib.hid (show l.length ≤ 500 by rw [← hl]; exact HOS.out.2)
          have WO := Lib.hid (fun (W : World) => words_any W ol l hl (by have := HLL.out; omega))
          clear hy0 hl
          go_wp2_with (go_at_call 29
                       rw [show wr.alloc (.cells #[.string ow, .string ol] 55) = y0 from HY0.out.symm]
                       refine (s_nodes2 SA.out.tg HD.out).mono ?_
                       rintro e y1 ⟨Ab, nb, cb, rfl, nl1, gy1⟩
                       have NL1 := Lib.hid nl1
                       have GY1 := Lib.hid gy1
                       have SB := Lib.hid (SA.out.made gy1)
                       have CB1 := Lib.hid (CA.out.kept gy1)
                       have a0 := CB1.out.at_ (i := 0) (v := .string ow) rfl
                       have a1 := CB1.out.at_ (i := 1) (v := .string ol) rfl
                       clear nl1 gy1)
          refine (run_any SB.out HD.out (by have := HNI.out; omega) HT2.out ow HOS.out.1 ol l HL.out (by have := HLL.out; omega)).mono ?_
          rintro e x1 ⟨ov, ev, out, err, code, M', rfl, ob, eb, sg, sn, kp, q, d⟩
          obtain ⟨Ao, on, co, rfl, hon⟩ := ob.open_
          obtain ⟨Ae, en, ce, rfl, hen⟩ := eb.open_
          have S5 := Lib.hid sg
          have N5 := Lib.hid sn
          have Q5 := Lib.hid q
          have CX := Lib.hid (show CB x1 wr.heap.size 55 [.string ow, .string ol] from kp.blk _ _ _ _ CB1.out (by decide))
          have herr : (en = 0 ∧ code = 0) ∨ (en = 0 ∧ code ≠ 0) ∨ (0 < en ∧ on = 0 ∧ code ≠ 0) := by
            rcases line_err d with e | ⟨e, hc⟩
            · by_cases hc : code = 0
              · exact .inl ⟨by rw [← hen, e]; rfl, hc⟩
              · exact .inr (.inl ⟨by rw [← hen, e]; rfl, hc⟩)
            · by_cases h0 : en = 0
              · exact .inr (.inl ⟨h0, hc⟩)
              · exact .inr (.inr ⟨by omega, by rw [← hon, e]; rfl, hc⟩)
          obtain ⟨x2, hx2⟩ : ∃ x, x = x1.alloc (.cells #[.slice Ao on co, .slice Ae en ce, .int .i64 code] 57) := ⟨_, rfl⟩
          have GX2 := Lib.hid (show x1.grownBy x2 none by rw [hx2]; exact grown_alloc _ _ _)
          have CO := Lib.hid (show CB x2 x1.heap.size 57 [.slice Ao on co, .slice Ae en ce, .int .i64 code] by rw [hx2]; exact CB.new _ _ _)
          have hon9 : on ≤ 9223372036854775807 := by have h1 := (ob.rb rfl).1; have h2 := h1.1; have h3 := h1.2.1; unfold maxLen at h3; omega
          have hen9 : en ≤ 9223372036854775807 := by have h1 := (eb.rb rfl).1; have h2 := h1.1; have h3 := h1.2.1; unfold maxLen at h3; omega
          have HX2 := Lib.hid hx2
          have TW0 := Lib.hid True.intro
          clear ob eb sg sn kp q d hon hen hx2 a0 a1
          cases hww : wds (pieces1 32 l) with
          | nil =>
            have HWW := Lib.hid hww
            clear hww
            rcases herr with ⟨rfl, rfl⟩ | ⟨rfl, hc0⟩ | ⟨he0, rfl, hc0⟩
            · obtain ⟨rfl, kq⟩ := Q5.out (quiet_nil HWW.out)
              have KQ := Lib.hid kq
              clear kq
              have b1 := (CX.out.kept GX2.out).at_ (i := 1) (v := .string ol) rfl
              rw [HX2.out] at b1
              try rw [show ((0 : Nat) : Int) = 0 from rfl] at b1
              go_wp2_with (first
                | (have hx := TW0; clear hx TW0; go_at_call 31
                   rw [show x1.alloc (.cells #[.slice Ao on co, .slice Ae 0 ce, .int .i64 0] 57) = x2 from HX2.out.symm]
                   refine (WO.out _).mono ?_
                   rintro e x3 ⟨v, rfl, hr, g3⟩
                   rw [HWW.out] at hr
                   obtain ⟨Aw, cw, hv, -, -⟩ := hr.shape
                   rw [List.map_nil, List.length_nil] at hv
                   subst hv
                   have GX3 := Lib.hid (grown_trans' GX2.out g3)
                   have CO3 := Lib.hid (CO.out.kept g3)
                   have o0 := CO3.out.at_ (i := 0) (v := .slice Ao on co) rfl
                   have o1 := CO3.out.at_ (i := 1) (v := .slice Ae 0 ce) rfl
                   have o2 := CO3.out.at_ (i := 2) (v := .int .i64 0) rfl
                   clear hr g3 b1)
                | (go_at_call 29
                   refine (s_nodes2 (S5.out.made GX3.out).tg N5.out).mono ?_
                   rintro e x4 ⟨Ac, nc, cc, rfl, nl2, g4⟩
                   have NL2 := Lib.hid nl2
                   have GX4 := Lib.hid (grown_trans' GX3.out g4)
                   have CO4 := Lib.hid (CO3.out.kept g4)
                   clear nl2 g4 o0 o1 o2)
                | (go_at_call 28
                   refine (nl_same (ts := [126, 124]) ⟨by decide, by decide⟩ NL1.out NL2.out (((Kp.none GY1.out).trans KQ.out).trans (Kp.none GX3.out)) (KQ.out.trans (Kp.none GX4.out))).mono ?_
                   rintro e x5 ⟨rfl, g5⟩
                   have GX5 := Lib.hid (grown_trans' GX4.out g5)
                   have CO5 := CO4.out.kept g5
                   have p0 := CO5.at_ (i := 0) (v := .slice Ao on co) rfl
                   have p1 := CO5.at_ (i := 1) (v := .slice Ae 0 ce) rfl
                   have p2 := CO5.at_ (i := 2) (v := .int .i64 0) rfl
                   clear g5 CO5))
              go_roundw
              case rel => exact ⟨j + 1, M', by go_num, by omega, S5.out.made GX5.out, N5.out⟩
              case measure => simp [intOf]; omega
            · obtain ⟨rfl, kq⟩ := Q5.out (quiet_code hc0)
              have KQ := Lib.hid kq
              clear kq
              have c1 : ((code : Int) == 0) = false := beq_eq_false_iff_ne.2 (by omega)
              have c2 : ((code : Int) != 0) = true := by rw [bne_iff_ne]; omega
              have b1 := (CX.out.kept GX2.out).at_ (i := 1) (v := .string ol) rfl
              rw [HX2.out] at b1
              try rw [show ((0 : Nat) : Int) = 0 from rfl] at b1
              go_wp2_with (first
                | (have hx := TW0; clear hx TW0; go_at_call 31
                   rw [show x1.alloc (.cells #[.slice Ao on co, .slice Ae 0 ce, .int .i64 code] 57) = x2 from HX2.out.symm]
                   refine (WO.out _).mono ?_
                   rintro e x3 ⟨v, rfl, hr, g3⟩
                   rw [HWW.out] at hr
                   obtain ⟨Aw, cw, hv, -, -⟩ := hr.shape
                   rw [List.map_nil, List.length_nil] at hv
                   subst hv
                   have GX3 := Lib.hid (grown_trans' GX2.out g3)
                   have CO3 := Lib.hid (CO.out.kept g3)
                   have o0 := CO3.out.at_ (i := 0) (v := .slice Ao on co) rfl
                   have o1 := CO3.out.at_ (i := 1) (v := .slice Ae 0 ce) rfl
                   have o2 := CO3.out.at_ (i := 2) (v := .int .i64 code) rfl
                   clear hr g3 b1)
                | (go_at_call 29
                   refine (s_nodes2 (S5.out.made GX3.out).tg N5.out).mono ?_
                   rintro e x4 ⟨Ac, nc, cc, rfl, nl2, g4⟩
                   have NL2 := Lib.hid nl2
                   have GX4 := Lib.hid (grown_trans' GX3.out g4)
                   have CO4 := Lib.hid (CO3.out.kept g4)
                   clear nl2 g4 o0 o1 o2)
                | (go_at_call 28
                   refine (nl_same (ts := [126, 124]) ⟨by decide, by decide⟩ NL1.out NL2.out (((Kp.none GY1.out).trans KQ.out).trans (Kp.none GX3.out)) (KQ.out.trans (Kp.none GX4.out))).mono ?_
                   rintro e x5 ⟨rfl, g5⟩
                   have GX5 := Lib.hid (grown_trans' GX4.out g5)
                   have CO5 := CO4.out.kept g5
                   have p0 := CO5.at_ (i := 0) (v := .slice Ao on co) rfl
                   have p1 := CO5.at_ (i := 1) (v := .slice Ae 0 ce) rfl
                   have p2 := CO5.at_ (i := 2) (v := .int .i64 code) rfl
                   clear g5 CO5))
              go_roundw
              case rel => exact ⟨j + 1, M', by go_num, by omega, S5.out.made GX5.out, N5.out⟩
              case measure => simp [intOf]; omega
            · obtain ⟨rfl, kq⟩ := Q5.out (quiet_code hc0)
              have KQ := Lib.hid kq
              clear kq
              have c1 : ((code : Int) == 0) = false := beq_eq_false_iff_ne.2 (by omega)
              have c2 : ((code : Int) != 0) = true := by rw [bne_iff_ne]; omega
              have e0 : (0 : Int) < (en : Int) := by omega
              have b1 := (CX.out.kept GX2.out).at_ (i := 1) (v := .string ol) rfl
              rw [HX2.out] at b1
              try rw [show ((0 : Nat) : Int) = 0 from rfl] at b1
              go_wp2_with (first
                | (have hx := TW0; clear hx TW0; go_at_call 31
                   rw [show x1.alloc (.cells #[.slice Ao 0 co, .slice Ae en ce, .int .i64 code] 57) = x2 from HX2.out.symm]
                   refine (WO.out _).mono ?_
                   rintro e x3 ⟨v, rfl, hr, g3⟩
                   rw [HWW.out] at hr
                   obtain ⟨Aw, cw, hv, -, -⟩ := hr.shape
                   rw [List.map_nil, List.length_nil] at hv
                   subst hv
                   have GX3 := Lib.hid (grown_trans' GX2.out g3)
                   have CO3 := Lib.hid (CO.out.kept g3)
                   have o0 := CO3.out.at_ (i := 0) (v := .slice Ao 0 co) rfl
                   have o1 := CO3.out.at_ (i := 1) (v := .slice Ae en ce) rfl
                   have o2 := CO3.out.at_ (i := 2) (v := .int .i64 code) rfl
                   clear hr g3 b1)
                | (go_at_call 29
                   refine (s_nodes2 (S5.out.made GX3.out).tg N5.out).mono ?_
                   rintro e x4 ⟨Ac, nc, cc, rfl, nl2, g4⟩
                   have NL2 := Lib.hid nl2
                   have GX4 := Lib.hid (grown_trans' GX3.out g4)
                   have CO4 := Lib.hid (CO3.out.kept g4)
                   clear nl2 g4 o0 o1 o2)
                | (go_at_call 28
                   refine (nl_same (ts := [126, 124]) ⟨by decide, by decide⟩ NL1.out NL2.out (((Kp.none GY1.out).trans KQ.out).trans (Kp.none GX3.out)) (KQ.out.trans (Kp.none GX4.out))).mono ?_
                   rintro e x5 ⟨rfl, g5⟩
                   have GX5 := Lib.hid (grown_trans' GX4.out g5)
                   have CO5 := CO4.out.kept g5
                   have p0 := CO5.at_ (i := 0) (v := .slice Ao 0 co) rfl
                   have p1 := CO5.at_ (i := 1) (v := .slice Ae en ce) rfl
                   have p2 := CO5.at_ (i := 2) (v := .int .i64 code) rfl
                   clear g5 CO5))
              go_roundw
              case rel => exact ⟨j + 1, M', by go_num, by omega, S5.out.made GX5.out, N5.out⟩
              case measure => simp [intOf]; omega
          | cons c ys =>
            have HWW := Lib.hid hww
            obtain ⟨nw, hnw⟩ : ∃ n, n = ys.length + 1 := ⟨_, rfl⟩
            have HNW := Lib.hid hnw
            have hw0 : 0 < nw := by omega
            have hw1 : ((nw : Int) == 0) = false := beq_eq_false_iff_ne.2 (by omega)
            have hw2 : (0 : Int) < (nw : Int) := by omega
            have hw3 : nw ≤ 9223372036854775807 := by have h1 := words_le l; rw [hww] at h1; simp only [List.length_cons] at h1; have := HLL.out; omega
            clear hww hnw
            by_cases h0 : c = cEcho
            · subst h0
              rcases herr with ⟨rfl, rfl⟩ | ⟨rfl, hc0⟩ | ⟨he0, rfl, hc0⟩
              · obtain ⟨rfl, kq⟩ := Q5.out (quiet_of HWW.out (looks_quiet (by simp)))
                have KQ := Lib.hid kq
                clear kq
                have b1 := (CX.out.kept GX2.out).at_ (i := 1) (v := .string ol) rfl
                rw [HX2.out] at b1
                try rw [show ((0 : Nat) : Int) = 0 from rfl] at b1
                go_wp2_with (first
                  | (have hx := TW0; clear hx TW0; go_at_call 31
                     rw [show x1.alloc (.cells #[.slice Ao on co, .slice Ae 0 ce, .int .i64 0] 57) = x2 from HX2.out.symm]
                     refine (WO.out _).mono ?_
                     rintro e x3 ⟨v, rfl, hr, g3⟩
                     rw [HWW.out] at hr
                     obtain ⟨gw, cw, cs, hv, -, -⟩ := rowX_open hr (by simp)
                     rw [List.length_map, List.length_cons, ← HNW.out] at hv
                     subst hv
                     have f0 : x3.cell? ⟨gw, 0, none⟩ = some (.string ⟨cEcho.toArray⟩) := rowX_at (k := 0) (j := 0) (c := [kS cEcho]) hr rfl rfl
                     have GX3 := Lib.hid (grown_trans' GX2.out g3)
                     have CO3 := Lib.hid (CO.out.kept g3)
                     have o0 := CO3.out.at_ (i := 0) (v := .slice Ao on co) rfl
                     have o1 := CO3.out.at_ (i := 1) (v := .slice Ae 0 ce) rfl
                     have o2 := CO3.out.at_ (i := 2) (v := .int .i64 0) rfl
                     clear hr g3 b1)
                  | (go_at_call 29
                     refine (s_nodes2 (S5.out.made GX3.out).tg N5.out).mono ?_
                     rintro e x4 ⟨Ac, nc, cc, rfl, nl2, g4⟩
                     have NL2 := Lib.hid nl2
                     have GX4 := Lib.hid (grown_trans' GX3.out g4)
                     have CO4 := Lib.hid (CO3.out.kept g4)
                     clear nl2 g4 o0 o1 o2 f0)
                  | (go_at_call 28
                     refine (nl_same (ts := [126, 124]) ⟨by decide, by decide⟩ NL1.out NL2.out (((Kp.none GY1.out).trans KQ.out).trans (Kp.none GX3.out)) (KQ.out.trans (Kp.none GX4.out))).mono ?_
                     rintro e x5 ⟨rfl, g5⟩
                     have GX5 := Lib.hid (grown_trans' GX4.out g5)
                     have CO5 := CO4.out.kept g5
                     have p0 := CO5.at_ (i := 0) (v := .slice Ao on co) rfl
                     have p1 := CO5.at_ (i := 1) (v := .slice Ae 0 ce) rfl
                     have p2 := CO5.at_ (i := 2) (v := .int .i64 0) rfl
                     clear g5 CO5))
                go_roundw
                case rel => exact ⟨j + 1, M', by go_num, by omega, S5.out.made GX5.out, N5.out⟩
                case measure => simp [intOf]; omega
              · obtain ⟨rfl, kq⟩ := Q5.out (quiet_code hc0)
                have KQ := Lib.hid kq
                clear kq
                have c1 : ((code : Int) == 0) = false := beq_eq_false_iff_ne.2 (by omega)
                have c2 : ((code : Int) != 0) = true := by rw [bne_iff_ne]; omega
                have b1 := (CX.out.kept GX2.out).at_ (i := 1) (v := .string ol) rfl
                rw [HX2.out] at b1
                try rw [show ((0 : Nat) : Int) = 0 from rfl] at b1
                go_wp2_with (first
                  | (have hx := TW0; clear hx TW0; go_at_call 31
                     rw [show x1.alloc (.cells #[.slice Ao on co, .slice Ae 0 ce, .int .i64 code] 57) = x2 from HX2.out.symm]
                     refine (WO.out _).mono ?_
                     rintro e x3 ⟨v, rfl, hr, g3⟩
                     rw [HWW.out] at hr
                     obtain ⟨gw, cw, cs, hv, -, -⟩ := rowX_open hr (by simp)
                     rw [List.length_map, List.length_cons, ← HNW.out] at hv
                     subst hv
                     have f0 : x3.cell? ⟨gw, 0, none⟩ = some (.string ⟨cEcho.toArray⟩) := rowX_at (k := 0) (j := 0) (c := [kS cEcho]) hr rfl rfl
                     have GX3 := Lib.hid (grown_trans' GX2.out g3)
                     have CO3 := Lib.hid (CO.out.kept g3)
                     have o0 := CO3.out.at_ (i := 0) (v := .slice Ao on co) rfl
                     have o1 := CO3.out.at_ (i := 1) (v := .slice Ae 0 ce) rfl
                     have o2 := CO3.out.at_ (i := 2) (v := .int .i64 code) rfl
                     clear hr g3 b1)
                  | (go_at_call 29
                     refine (s_nodes2 (S5.out.made GX3.out).tg N5.out).mono ?_
                     rintro e x4 ⟨Ac, nc, cc, rfl, nl2, g4⟩
                     have NL2 := Lib.hid nl2
                     have GX4 := Lib.hid (grown_trans' GX3.out g4)
                     have CO4 := Lib.hid (CO3.out.kept g4)
                     clear nl2 g4 o0 o1 o2 f0)
                  | (go_at_call 28
                     refine (nl_same (ts := [126, 124]) ⟨by decide, by decide⟩ NL1.out NL2.out (((Kp.none GY1.out).trans KQ.out).trans (Kp.none GX3.out)) (KQ.out.trans (Kp.none GX4.out))).mono ?_
                     rintro e x5 ⟨rfl, g5⟩
                     have GX5 := Lib.hid (grown_trans' GX4.out g5)
                     have CO5 := CO4.out.kept g5
                     have p0 := CO5.at_ (i := 0) (v := .slice Ao on co) rfl
                     have p1 := CO5.at_ (i := 1) (v := .slice Ae 0 ce) rfl
                     have p2 := CO5.at_ (i := 2) (v := .int .i64 code) rfl
                     clear g5 CO5))
                go_roundw
                case rel => exact ⟨j + 1, M', by go_num, by omega, S5.out.made GX5.out, N5.out⟩
                case measure => simp [intOf]; omega
              · obtain ⟨rfl, kq⟩ := Q5.out (quiet_code hc0)
                have KQ := Lib.hid kq
                clear kq
                have c1 : ((code : Int) == 0) = false := beq_eq_false_iff_ne.2 (by omega)
                have c2 : ((code : Int) != 0) = true := by rw [bne_iff_ne]; omega
                have e0 : (0 : Int) < (en : Int) := by omega
                have b1 := (CX.out.kept GX2.out).at_ (i := 1) (v := .string ol) rfl
                rw [HX2.out] at b1
                try rw [show ((0 : Nat) : Int) = 0 from rfl] at b1
                go_wp2_with (first
                  | (have hx := TW0; clear hx TW0; go_at_call 31
                     rw [show x1.alloc (.cells #[.slice Ao 0 co, .slice Ae en ce, .int .i64 code] 57) = x2 from HX2.out.symm]
                     refine (WO.out _).mono ?_
                     rintro e x3 ⟨v, rfl, hr, g3⟩
                     rw [HWW.out] at hr
                     obtain ⟨gw, cw, cs, hv, -, -⟩ := rowX_open hr (by simp)
                     rw [List.length_map, List.length_cons, ← HNW.out] at hv
                     subst hv
                     have f0 : x3.cell? ⟨gw, 0, none⟩ = some (.string ⟨cEcho.toArray⟩) := rowX_at (k := 0) (j := 0) (c := [kS cEcho]) hr rfl rfl
                     have GX3 := Lib.hid (grown_trans' GX2.out g3)
                     have CO3 := Lib.hid (CO.out.kept g3)
                     have o0 := CO3.out.at_ (i := 0) (v := .slice Ao 0 co) rfl
                     have o1 := CO3.out.at_ (i := 1) (v := .slice Ae en ce) rfl
                     have o2 := CO3.out.at_ (i := 2) (v := .int .i64 code) rfl
                     clear hr g3 b1)
                  | (go_at_call 29
                     refine (s_nodes2 (S5.out.made GX3.out).tg N5.out).mono ?_
                     rintro e x4 ⟨Ac, nc, cc, rfl, nl2, g4⟩
                     have NL2 := Lib.hid nl2
                     have GX4 := Lib.hid (grown_trans' GX3.out g4)
                     have CO4 := Lib.hid (CO3.out.kept g4)
                     clear nl2 g4 o0 o1 o2 f0)
                  | (go_at_call 28
                     refine (nl_same (ts := [126, 124]) ⟨by decide, by decide⟩ NL1.out NL2.out (((Kp.none GY1.out).trans KQ.out).trans (Kp.none GX3.out)) (KQ.out.trans (Kp.none GX4.out))).mono ?_
                     rintro e x5 ⟨rfl, g5⟩
                     have GX5 := Lib.hid (grown_trans' GX4.out g5)
                     have CO5 := CO4.out.kept g5
                     have p0 := CO5.at_ (i := 0) (v := .slice Ao 0 co) rfl
                     have p1 := CO5.at_ (i := 1) (v := .slice Ae en ce) rfl
                     have p2 := CO5.at_ (i := 2) (v := .int .i64 code) rfl
                     clear g5 CO5))
                go_roundw
                case rel => exact ⟨j + 1, M', by go_num, by omega, S5.out.made GX5.out, N5.out⟩
                case measure => simp [intOf]; omega
            by_cases h1 : c = cCat
            · subst h1
              rcases herr with ⟨rfl, rfl⟩ | ⟨rfl, hc0⟩ | ⟨he0, rfl, hc0⟩
              · obtain ⟨rfl, kq⟩ := Q5.out (quiet_of HWW.out (looks_quiet (by simp)))
                have KQ := Lib.hid kq
                clear kq
                have b1 := (CX.out.kept GX2.out).at_ (i := 1) (v := .string ol) rfl
                rw [HX2.out] at b1
                try rw [show ((0 : Nat) : Int) = 0 from rfl] at b1
                go_wp2_with (first
                  | (have hx := TW0; clear hx TW0; go_at_call 31
                     rw [show x1.alloc (.cells #[.slice Ao on co, .slice Ae 0 ce, .int .i64 0] 57) = x2 from HX2.out.symm]
                     refine (WO.out _).mono ?_
                     rintro e x3 ⟨v, rfl, hr, g3⟩
                     rw [HWW.out] at hr
                     obtain ⟨gw, cw, cs, hv, -, -⟩ := rowX_open hr (by simp)
                     rw [List.length_map, List.length_cons, ← HNW.out] at hv
                     subst hv
                     have f0 : x3.cell? ⟨gw, 0, none⟩ = some (.string ⟨cCat.toArray⟩) := rowX_at (k := 0) (j := 0) (c := [kS cCat]) hr rfl rfl
                     have GX3 := Lib.hid (grown_trans' GX2.out g3)
                     have CO3 := Lib.hid (CO.out.kept g3)
                     have o0 := CO3.out.at_ (i := 0) (v := .slice Ao on co) rfl
                     have o1 := CO3.out.at_ (i := 1) (v := .slice Ae 0 ce) rfl
                     have o2 := CO3.out.at_ (i := 2) (v := .int .i64 0) rfl
                     clear hr g3 b1)
                  | (go_at_call 29
                     refine (s_nodes2 (S5.out.made GX3.out).tg N5.out).mono ?_
                     rintro e x4 ⟨Ac, nc, cc, rfl, nl2, g4⟩
                     have NL2 := Lib.hid nl2
                     have GX4 := Lib.hid (grown_trans' GX3.out g4)
                     have CO4 := Lib.hid (CO3.out.kept g4)
                     clear nl2 g4 o0 o1 o2 f0)
                  | (go_at_call 28
                     refine (nl_same (ts := [126, 124]) ⟨by decide, by decide⟩ NL1.out NL2.out (((Kp.none GY1.out).trans KQ.out).trans (Kp.none GX3.out)) (KQ.out.trans (Kp.none GX4.out))).mono ?_
                     rintro e x5 ⟨rfl, g5⟩
                     have GX5 := Lib.hid (grown_trans' GX4.out g5)
                     have CO5 := CO4.out.kept g5
                     have p0 := CO5.at_ (i := 0) (v := .slice Ao on co) rfl
                     have p1 := CO5.at_ (i := 1) (v := .slice Ae 0 ce) rfl
                     have p2 := CO5.at_ (i := 2) (v := .int .i64 0) rfl
                     clear g5 CO5))
                go_roundw
                case rel => exact ⟨j + 1, M', by go_num, by omega, S5.out.made GX5.out, N5.out⟩
                case measure => simp [intOf]; omega
              · obtain ⟨rfl, kq⟩ := Q5.out (quiet_code hc0)
                have KQ := Lib.hid kq
                clear kq
                have c1 : ((code : Int) == 0) = false := beq_eq_false_iff_ne.2 (by omega)
                have c2 : ((code : Int) != 0) = true := by rw [bne_iff_ne]; omega
                have b1 := (CX.out.kept GX2.out).at_ (i := 1) (v := .string ol) rfl
                rw [HX2.out] at b1
                try rw [show ((0 : Nat) : Int) = 0 from rfl] at b1
                go_wp2_with (first
                  | (have hx := TW0; clear hx TW0; go_at_call 31
                     rw [show x1.alloc (.cells #[.slice Ao on co, .slice Ae 0 ce, .int .i64 code] 57) = x2 from HX2.out.symm]
                     refine (WO.out _).mono ?_
                     rintro e x3 ⟨v, rfl, hr, g3⟩
                     rw [HWW.out] at hr
                     obtain ⟨gw, cw, cs, hv, -, -⟩ := rowX_open hr (by simp)
                     rw [List.length_map, List.length_cons, ← HNW.out] at hv
                     subst hv
                     have f0 : x3.cell? ⟨gw, 0, none⟩ = some (.string ⟨cCat.toArray⟩) := rowX_at (k := 0) (j := 0) (c := [kS cCat]) hr rfl rfl
                     have GX3 := Lib.hid (grown_trans' GX2.out g3)
                     have CO3 := Lib.hid (CO.out.kept g3)
                     have o0 := CO3.out.at_ (i := 0) (v := .slice Ao on co) rfl
                     have o1 := CO3.out.at_ (i := 1) (v := .slice Ae 0 ce) rfl
                     have o2 := CO3.out.at_ (i := 2) (v := .int .i64 code) rfl
                     clear hr g3 b1)
                  | (go_at_call 29
                     refine (s_nodes2 (S5.out.made GX3.out).tg N5.out).mono ?_
                     rintro e x4 ⟨Ac, nc, cc, rfl, nl2, g4⟩
                     have NL2 := Lib.hid nl2
                     have GX4 := Lib.hid (grown_trans' GX3.out g4)
                     have CO4 := Lib.hid (CO3.out.kept g4)
                     clear nl2 g4 o0 o1 o2 f0)
                  | (go_at_call 28
                     refine (nl_same (ts := [126, 124]) ⟨by decide, by decide⟩ NL1.out NL2.out (((Kp.none GY1.out).trans KQ.out).trans (Kp.none GX3.out)) (KQ.out.trans (Kp.none GX4.out))).mono ?_
                     rintro e x5 ⟨rfl, g5⟩
                     have GX5 := Lib.hid (grown_trans' GX4.out g5)
                     have CO5 := CO4.out.kept g5
                     have p0 := CO5.at_ (i := 0) (v := .slice Ao on co) rfl
                     have p1 := CO5.at_ (i := 1) (v := .slice Ae 0 ce) rfl
                     have p2 := CO5.at_ (i := 2) (v := .int .i64 code) rfl
                     clear g5 CO5))
                go_roundw
                case rel => exact ⟨j + 1, M', by go_num, by omega, S5.out.made GX5.out, N5.out⟩
                case measure => simp [intOf]; omega
              · obtain ⟨rfl, kq⟩ := Q5.out (quiet_code hc0)
                have KQ := Lib.hid kq
                clear kq
                have c1 : ((code : Int) == 0) = false := beq_eq_false_iff_ne.2 (by omega)
                have c2 : ((code : Int) != 0) = true := by rw [bne_iff_ne]; omega
                have e0 : (0 : Int) < (en : Int) := by omega
                have b1 := (CX.out.kept GX2.out).at_ (i := 1) (v := .string ol) rfl
                rw [HX2.out] at b1
                try rw [show ((0 : Nat) : Int) = 0 from rfl] at b1
                go_wp2_with (first
                  | (have hx := TW0; clear hx TW0; go_at_call 31
                     rw [show x1.alloc (.cells #[.slice Ao 0 co, .slice Ae en ce, .int .i64 code] 57) = x2 from HX2.out.symm]
                     refine (WO.out _).mono ?_
                     rintro e x3 ⟨v, rfl, hr, g3⟩
                     rw [HWW.out] at hr
                     obtain ⟨gw, cw, cs, hv, -, -⟩ := rowX_open hr (by simp)
                     rw [List.length_map, List.length_cons, ← HNW.out] at hv
                     subst hv
                     have f0 : x3.cell? ⟨gw, 0, none⟩ = some (.string ⟨cCat.toArray⟩) := rowX_at (k := 0) (j := 0) (c := [kS cCat]) hr rfl rfl
                     have GX3 := Lib.hid (grown_trans' GX2.out g3)
                     have CO3 := Lib.hid (CO.out.kept g3)
                     have o0 := CO3.out.at_ (i := 0) (v := .slice Ao 0 co) rfl
                     have o1 := CO3.out.at_ (i := 1) (v := .slice Ae en ce) rfl
                     have o2 := CO3.out.at_ (i := 2) (v := .int .i64 code) rfl
                     clear hr g3 b1)
                  | (go_at_call 29
                     refine (s_nodes2 (S5.out.made GX3.out).tg N5.out).mono ?_
                     rintro e x4 ⟨Ac, nc, cc, rfl, nl2, g4⟩
                     have NL2 := Lib.hid nl2
                     have GX4 := Lib.hid (grown_trans' GX3.out g4)
                     have CO4 := Lib.hid (CO3.out.kept g4)
                     clear nl2 g4 o0 o1 o2 f0)
                  | (go_at_call 28
                     refine (nl_same (ts := [126, 124]) ⟨by decide, by decide⟩ NL1.out NL2.out (((Kp.none GY1.out).trans KQ.out).trans (Kp.none GX3.out)) (KQ.out.trans (Kp.none GX4.out))).mono ?_
                     rintro e x5 ⟨rfl, g5⟩
                     have GX5 := Lib.hid (grown_trans' GX4.out g5)
                     have CO5 := CO4.out.kept g5
                     have p0 := CO5.at_ (i := 0) (v := .slice Ao 0 co) rfl
                     have p1 := CO5.at_ (i := 1) (v := .slice Ae en ce) rfl
                     have p2 := CO5.at_ (i := 2) (v := .int .i64 code) rfl
                     clear g5 CO5))
                go_roundw
                case rel => exact ⟨j + 1, M', by go_num, by omega, S5.out.made GX5.out, N5.out⟩
                case measure => simp [intOf]; omega
            by_cases h2 : c = cLs
            · subst h2
              rcases herr with ⟨rfl, rfl⟩ | ⟨rfl, hc0⟩ | ⟨he0, rfl, hc0⟩
              · obtain ⟨rfl, kq⟩ := Q5.out (quiet_of HWW.out (looks_quiet (by simp)))
                have KQ := Lib.hid kq
                clear kq
                have b1 := (CX.out.kept GX2.out).at_ (i := 1) (v := .string ol) rfl
                rw [HX2.out] at b1
                try rw [show ((0 : Nat) : Int) = 0 from rfl] at b1
                go_wp2_with (first
                  | (have hx := TW0; clear hx TW0; go_at_call 31
                     rw [show x1.alloc (.cells #[.slice Ao on co, .slice Ae 0 ce, .int .i64 0] 57) = x2 from HX2.out.symm]
                     refine (WO.out _).mono ?_
                     rintro e x3 ⟨v, rfl, hr, g3⟩
                     rw [HWW.out] at hr
                     obtain ⟨gw, cw, cs, hv, -, -⟩ := rowX_open hr (by simp)
                     rw [List.length_map, List.length_cons, ← HNW.out] at hv
                     subst hv
                     have f0 : x3.cell? ⟨gw, 0, none⟩ = some (.string ⟨cLs.toArray⟩) := rowX_at (k := 0) (j := 0) (c := [kS cLs]) hr rfl rfl
                     have GX3 := Lib.hid (grown_trans' GX2.out g3)
                     have CO3 := Lib.hid (CO.out.kept g3)
                     have o0 := CO3.out.at_ (i := 0) (v := .slice Ao on co) rfl
                     have o1 := CO3.out.at_ (i := 1) (v := .slice Ae 0 ce) rfl
                     have o2 := CO3.out.at_ (i := 2) (v := .int .i64 0) rfl
                     clear hr g3 b1)
                  | (go_at_call 29
                     refine (s_nodes2 (S5.out.made GX3.out).tg N5.out).mono ?_
                     rintro e x4 ⟨Ac, nc, cc, rfl, nl2, g4⟩
                     have NL2 := Lib.hid nl2
                     have GX4 := Lib.hid (grown_trans' GX3.out g4)
                     have CO4 := Lib.hid (CO3.out.kept g4)
                     clear nl2 g4 o0 o1 o2 f0)
                  | (go_at_call 28
                     refine (nl_same (ts := [126, 124]) ⟨by decide, by decide⟩ NL1.out NL2.out (((Kp.none GY1.out).trans KQ.out).trans (Kp.none GX3.out)) (KQ.out.trans (Kp.none GX4.out))).mono ?_
                     rintro e x5 ⟨rfl, g5⟩
                     have GX5 := Lib.hid (grown_trans' GX4.out g5)
                     have CO5 := CO4.out.kept g5
                     have p0 := CO5.at_ (i := 0) (v := .slice Ao on co) rfl
                     have p1 := CO5.at_ (i := 1) (v := .slice Ae 0 ce) rfl
                     have p2 := CO5.at_ (i := 2) (v := .int .i64 0) rfl
                     clear g5 CO5))
                go_roundw
                case rel => exact ⟨j + 1, M', by go_num, by omega, S5.out.made GX5.out, N5.out⟩
                case measure => simp [intOf]; omega
              · obtain ⟨rfl, kq⟩ := Q5.out (quiet_code hc0)
                have KQ := Lib.hid kq
                clear kq
                have c1 : ((code : Int) == 0) = false := beq_eq_false_iff_ne.2 (by omega)
                have c2 : ((code : Int) != 0) = true := by rw [bne_iff_ne]; omega
                have b1 := (CX.out.kept GX2.out).at_ (i := 1) (v := .string ol) rfl
                rw [HX2.out] at b1
                try rw [show ((0 : Nat) : Int) = 0 from rfl] at b1
                go_wp2_with (first
                  | (have hx := TW0; clear hx TW0; go_at_call 31
                     rw [show x1.alloc (.cells #[.slice Ao on co, .slice Ae 0 ce, .int .i64 code] 57) = x2 from HX2.out.symm]
                     refine (WO.out _).mono ?_
                     rintro e x3 ⟨v, rfl, hr, g3⟩
                     rw [HWW.out] at hr
                     obtain ⟨gw, cw, cs, hv, -, -⟩ := rowX_open hr (by simp)
                     rw [List.length_map, List.length_cons, ← HNW.out] at hv
                     subst hv
                     have f0 : x3.cell? ⟨gw, 0, none⟩ = some (.string ⟨cLs.toArray⟩) := rowX_at (k := 0) (j := 0) (c := [kS cLs]) hr rfl rfl
                     have GX3 := Lib.hid (grown_trans' GX2.out g3)
                     have CO3 := Lib.hid (CO.out.kept g3)
                     have o0 := CO3.out.at_ (i := 0) (v := .slice Ao on co) rfl
                     have o1 := CO3.out.at_ (i := 1) (v := .slice Ae 0 ce) rfl
                     have o2 := CO3.out.at_ (i := 2) (v := .int .i64 code) rfl
                     clear hr g3 b1)
                  | (go_at_call 29
                     refine (s_nodes2 (S5.out.made GX3.out).tg N5.out).mono ?_
                     rintro e x4 ⟨Ac, nc, cc, rfl, nl2, g4⟩
                     have NL2 := Lib.hid nl2
                     have GX4 := Lib.hid (grown_trans' GX3.out g4)
                     have CO4 := Lib.hid (CO3.out.kept g4)
                     clear nl2 g4 o0 o1 o2 f0)
                  | (go_at_call 28
                     refine (nl_same (ts := [126, 124]) ⟨by decide, by decide⟩ NL1.out NL2.out (((Kp.none GY1.out).trans KQ.out).trans (Kp.none GX3.out)) (KQ.out.trans (Kp.none GX4.out))).mono ?_
                     rintro e x5 ⟨rfl, g5⟩
                     have GX5 := Lib.hid (grown_trans' GX4.out g5)
                     have CO5 := CO4.out.kept g5
                     have p0 := CO5.at_ (i := 0) (v := .slice Ao on co) rfl
                     have p1 := CO5.at_ (i := 1) (v := .slice Ae 0 ce) rfl
                     have p2 := CO5.at_ (i := 2) (v := .int .i64 code) rfl
                     clear g5 CO5))
                go_roundw
                case rel => exact ⟨j + 1, M', by go_num, by omega, S5.out.made GX5.out, N5.out⟩
                case measure => simp [intOf]; omega
              · obtain ⟨rfl, kq⟩ := Q5.out (quiet_code hc0)
                have KQ := Lib.hid kq
                clear kq
                have c1 : ((code : Int) == 0) = false := beq_eq_false_iff_ne.2 (by omega)
                have c2 : ((code : Int) != 0) = true := by rw [bne_iff_ne]; omega
                have e0 : (0 : Int) < (en : Int) := by omega
                have b1 := (CX.out.kept GX2.out).at_ (i := 1) (v := .string ol) rfl
                rw [HX2.out] at b1
                try rw [show ((0 : Nat) : Int) = 0 from rfl] at b1
                go_wp2_with (first
                  | (have hx := TW0; clear hx TW0; go_at_call 31
                     rw [show x1.alloc (.cells #[.slice Ao 0 co, .slice Ae en ce, .int .i64 code] 57) = x2 from HX2.out.symm]
                     refine (WO.out _).mono ?_
                     rintro e x3 ⟨v, rfl, hr, g3⟩
                     rw [HWW.out] at hr
                     obtain ⟨gw, cw, cs, hv, -, -⟩ := rowX_open hr (by simp)
                     rw [List.length_map, List.length_cons, ← HNW.out] at hv
                     subst hv
                     have f0 : x3.cell? ⟨gw, 0, none⟩ = some (.string ⟨cLs.toArray⟩) := rowX_at (k := 0) (j := 0) (c := [kS cLs]) hr rfl rfl
                     have GX3 := Lib.hid (grown_trans' GX2.out g3)
                     have CO3 := Lib.hid (CO.out.kept g3)
                     have o0 := CO3.out.at_ (i := 0) (v := .slice Ao 0 co) rfl
                     have o1 := CO3.out.at_ (i := 1) (v := .slice Ae en ce) rfl
                     have o2 := CO3.out.at_ (i := 2) (v := .int .i64 code) rfl
                     clear hr g3 b1)
                  | (go_at_call 29
                     refine (s_nodes2 (S5.out.made GX3.out).tg N5.out).mono ?_
                     rintro e x4 ⟨Ac, nc, cc, rfl, nl2, g4⟩
                     have NL2 := Lib.hid nl2
                     have GX4 := Lib.hid (grown_trans' GX3.out g4)
                     have CO4 := Lib.hid (CO3.out.kept g4)
                     clear nl2 g4 o0 o1 o2 f0)
                  | (go_at_call 28
                     refine (nl_same (ts := [126, 124]) ⟨by decide, by decide⟩ NL1.out NL2.out (((Kp.none GY1.out).trans KQ.out).trans (Kp.none GX3.out)) (KQ.out.trans (Kp.none GX4.out))).mono ?_
                     rintro e x5 ⟨rfl, g5⟩
                     have GX5 := Lib.hid (grown_trans' GX4.out g5)
                     have CO5 := CO4.out.kept g5
                     have p0 := CO5.at_ (i := 0) (v := .slice Ao 0 co) rfl
                     have p1 := CO5.at_ (i := 1) (v := .slice Ae en ce) rfl
                     have p2 := CO5.at_ (i := 2) (v := .int .i64 code) rfl
                     clear g5 CO5))
                go_roundw
                case rel => exact ⟨j + 1, M', by go_num, by omega, S5.out.made GX5.out, N5.out⟩
                case measure => simp [intOf]; omega
            by_cases h3 : c = cWhoami
            · subst h3
              rcases herr with ⟨rfl, rfl⟩ | ⟨rfl, hc0⟩ | ⟨he0, rfl, hc0⟩
              · obtain ⟨rfl, kq⟩ := Q5.out (quiet_of HWW.out (looks_quiet (by simp)))
                have KQ := Lib.hid kq
                clear kq
                have b1 := (CX.out.kept GX2.out).at_ (i := 1) (v := .string ol) rfl
                rw [HX2.out] at b1
                try rw [show ((0 : Nat) : Int) = 0 from rfl] at b1
                go_wp2_with (first
                  | (have hx := TW0; clear hx TW0; go_at_call 31
                     rw [show x1.alloc (.cells #[.slice Ao on co, .slice Ae 0 ce, .int .i64 0] 57) = x2 from HX2.out.symm]
                     refine (WO.out _).mono ?_
                     rintro e x3 ⟨v, rfl, hr, g3⟩
                     rw [HWW.out] at hr
                     obtain ⟨gw, cw, cs, hv, -, -⟩ := rowX_open hr (by simp)
                     rw [List.length_map, List.length_cons, ← HNW.out] at hv
                     subst hv
                     have f0 : x3.cell? ⟨gw, 0, none⟩ = some (.string ⟨cWhoami.toArray⟩) := rowX_at (k := 0) (j := 0) (c := [kS cWhoami]) hr rfl rfl
                     have GX3 := Lib.hid (grown_trans' GX2.out g3)
                     have CO3 := Lib.hid (CO.out.kept g3)
                     have o0 := CO3.out.at_ (i := 0) (v := .slice Ao on co) rfl
                     have o1 := CO3.out.at_ (i := 1) (v := .slice Ae 0 ce) rfl
                     have o2 := CO3.out.at_ (i := 2) (v := .int .i64 0) rfl
                     clear hr g3 b1)
                  | (go_at_call 29
                     refine (s_nodes2 (S5.out.made GX3.out).tg N5.out).mono ?_
                     rintro e x4 ⟨Ac, nc, cc, rfl, nl2, g4⟩
                     have NL2 := Lib.hid nl2
                     have GX4 := Lib.hid (grown_trans' GX3.out g4)
                     have CO4 := Lib.hid (CO3.out.kept g4)
                     clear nl2 g4 o0 o1 o2 f0)
                  | (go_at_call 28
                     refine (nl_same (ts := [126, 124]) ⟨by decide, by decide⟩ NL1.out NL2.out (((Kp.none GY1.out).trans KQ.out).trans (Kp.none GX3.out)) (KQ.out.trans (Kp.none GX4.out))).mono ?_
                     rintro e x5 ⟨rfl, g5⟩
                     have GX5 := Lib.hid (grown_trans' GX4.out g5)
                     have CO5 := CO4.out.kept g5
                     have p0 := CO5.at_ (i := 0) (v := .slice Ao on co) rfl
                     have p1 := CO5.at_ (i := 1) (v := .slice Ae 0 ce) rfl
                     have p2 := CO5.at_ (i := 2) (v := .int .i64 0) rfl
                     clear g5 CO5))
                go_roundw
                case rel => exact ⟨j + 1, M', by go_num, by omega, S5.out.made GX5.out, N5.out⟩
                case measure => simp [intOf]; omega
              · obtain ⟨rfl, kq⟩ := Q5.out (quiet_code hc0)
                have KQ := Lib.hid kq
                clear kq
                have c1 : ((code : Int) == 0) = false := beq_eq_false_iff_ne.2 (by omega)
                have c2 : ((code : Int) != 0) = true := by rw [bne_iff_ne]; omega
                have b1 := (CX.out.kept GX2.out).at_ (i := 1) (v := .string ol) rfl
                rw [HX2.out] at b1
                try rw [show ((0 : Nat) : Int) = 0 from rfl] at b1
                go_wp2_with (first
                  | (have hx := TW0; clear hx TW0; go_at_call 31
                     rw [show x1.alloc (.cells #[.slice Ao on co, .slice Ae 0 ce, .int .i64 code] 57) = x2 from HX2.out.symm]
                     refine (WO.out _).mono ?_
                     rintro e x3 ⟨v, rfl, hr, g3⟩
                     rw [HWW.out] at hr
                     obtain ⟨gw, cw, cs, hv, -, -⟩ := rowX_open hr (by simp)
                     rw [List.length_map, List.length_cons, ← HNW.out] at hv
                     subst hv
                     have f0 : x3.cell? ⟨gw, 0, none⟩ = some (.string ⟨cWhoami.toArray⟩) := rowX_at (k := 0) (j := 0) (c := [kS cWhoami]) hr rfl rfl
                     have GX3 := Lib.hid (grown_trans' GX2.out g3)
                     have CO3 := Lib.hid (CO.out.kept g3)
                     have o0 := CO3.out.at_ (i := 0) (v := .slice Ao on co) rfl
                     have o1 := CO3.out.at_ (i := 1) (v := .slice Ae 0 ce) rfl
                     have o2 := CO3.out.at_ (i := 2) (v := .int .i64 code) rfl
                     clear hr g3 b1)
                  | (go_at_call 29
                     refine (s_nodes2 (S5.out.made GX3.out).tg N5.out).mono ?_
                     rintro e x4 ⟨Ac, nc, cc, rfl, nl2, g4⟩
                     have NL2 := Lib.hid nl2
                     have GX4 := Lib.hid (grown_trans' GX3.out g4)
                     have CO4 := Lib.hid (CO3.out.kept g4)
                     clear nl2 g4 o0 o1 o2 f0)
                  | (go_at_call 28
                     refine (nl_same (ts := [126, 124]) ⟨by decide, by decide⟩ NL1.out NL2.out (((Kp.none GY1.out).trans KQ.out).trans (Kp.none GX3.out)) (KQ.out.trans (Kp.none GX4.out))).mono ?_
                     rintro e x5 ⟨rfl, g5⟩
                     have GX5 := Lib.hid (grown_trans' GX4.out g5)
                     have CO5 := CO4.out.kept g5
                     have p0 := CO5.at_ (i := 0) (v := .slice Ao on co) rfl
                     have p1 := CO5.at_ (i := 1) (v := .slice Ae 0 ce) rfl
                     have p2 := CO5.at_ (i := 2) (v := .int .i64 code) rfl
                     clear g5 CO5))
                go_roundw
                case rel => exact ⟨j + 1, M', by go_num, by omega, S5.out.made GX5.out, N5.out⟩
                case measure => simp [intOf]; omega
              · obtain ⟨rfl, kq⟩ := Q5.out (quiet_code hc0)
                have KQ := Lib.hid kq
                clear kq
                have c1 : ((code : Int) == 0) = false := beq_eq_false_iff_ne.2 (by omega)
                have c2 : ((code : Int) != 0) = true := by rw [bne_iff_ne]; omega
                have e0 : (0 : Int) < (en : Int) := by omega
                have b1 := (CX.out.kept GX2.out).at_ (i := 1) (v := .string ol) rfl
                rw [HX2.out] at b1
                try rw [show ((0 : Nat) : Int) = 0 from rfl] at b1
                go_wp2_with (first
                  | (have hx := TW0; clear hx TW0; go_at_call 31
                     rw [show x1.alloc (.cells #[.slice Ao 0 co, .slice Ae en ce, .int .i64 code] 57) = x2 from HX2.out.symm]
                     refine (WO.out _).mono ?_
                     rintro e x3 ⟨v, rfl, hr, g3⟩
                     rw [HWW.out] at hr
                     obtain ⟨gw, cw, cs, hv, -, -⟩ := rowX_open hr (by simp)
                     rw [List.length_map, List.length_cons, ← HNW.out] at hv
                     subst hv
                     have f0 : x3.cell? ⟨gw, 0, none⟩ = some (.string ⟨cWhoami.toArray⟩) := rowX_at (k := 0) (j := 0) (c := [kS cWhoami]) hr rfl rfl
                     have GX3 := Lib.hid (grown_trans' GX2.out g3)
                     have CO3 := Lib.hid (CO.out.kept g3)
                     have o0 := CO3.out.at_ (i := 0) (v := .slice Ao 0 co) rfl
                     have o1 := CO3.out.at_ (i := 1) (v := .slice Ae en ce) rfl
                     have o2 := CO3.out.at_ (i := 2) (v := .int .i64 code) rfl
                     clear hr g3 b1)
                  | (go_at_call 29
                     refine (s_nodes2 (S5.out.made GX3.out).tg N5.out).mono ?_
                     rintro e x4 ⟨Ac, nc, cc, rfl, nl2, g4⟩
                     have NL2 := Lib.hid nl2
                     have GX4 := Lib.hid (grown_trans' GX3.out g4)
                     have CO4 := Lib.hid (CO3.out.kept g4)
                     clear nl2 g4 o0 o1 o2 f0)
                  | (go_at_call 28
                     refine (nl_same (ts := [126, 124]) ⟨by decide, by decide⟩ NL1.out NL2.out (((Kp.none GY1.out).trans KQ.out).trans (Kp.none GX3.out)) (KQ.out.trans (Kp.none GX4.out))).mono ?_
                     rintro e x5 ⟨rfl, g5⟩
                     have GX5 := Lib.hid (grown_trans' GX4.out g5)
                     have CO5 := CO4.out.kept g5
                     have p0 := CO5.at_ (i := 0) (v := .slice Ao 0 co) rfl
                     have p1 := CO5.at_ (i := 1) (v := .slice Ae en ce) rfl
                     have p2 := CO5.at_ (i := 2) (v := .int .i64 code) rfl
                     clear g5 CO5))
                go_roundw
                case rel => exact ⟨j + 1, M', by go_num, by omega, S5.out.made GX5.out, N5.out⟩
                case measure => simp [intOf]; omega
            by_cases h4 : c = cExit
            · subst h4
              rcases herr with ⟨rfl, rfl⟩ | ⟨rfl, hc0⟩ | ⟨he0, rfl, hc0⟩
              · obtain ⟨rfl, kq⟩ := Q5.out (quiet_of HWW.out (looks_quiet (by simp)))
                have KQ := Lib.hid kq
                clear kq
                have b1 := (CX.out.kept GX2.out).at_ (i := 1) (v := .string ol) rfl
                rw [HX2.out] at b1
                try rw [show ((0 : Nat) : Int) = 0 from rfl] at b1
                go_wp2_with (first
                  | (have hx := TW0; clear hx TW0; go_at_call 31
                     rw [show x1.alloc (.cells #[.slice Ao on co, .slice Ae 0 ce, .int .i64 0] 57) = x2 from HX2.out.symm]
                     refine (WO.out _).mono ?_
                     rintro e x3 ⟨v, rfl, hr, g3⟩
                     rw [HWW.out] at hr
                     obtain ⟨gw, cw, cs, hv, -, -⟩ := rowX_open hr (by simp)
                     rw [List.length_map, List.length_cons, ← HNW.out] at hv
                     subst hv
                     have f0 : x3.cell? ⟨gw, 0, none⟩ = some (.string ⟨cExit.toArray⟩) := rowX_at (k := 0) (j := 0) (c := [kS cExit]) hr rfl rfl
                     have GX3 := Lib.hid (grown_trans' GX2.out g3)
                     have CO3 := Lib.hid (CO.out.kept g3)
                     have o0 := CO3.out.at_ (i := 0) (v := .slice Ao on co) rfl
                     have o1 := CO3.out.at_ (i := 1) (v := .slice Ae 0 ce) rfl
                     have o2 := CO3.out.at_ (i := 2) (v := .int .i64 0) rfl
                     clear hr g3 b1)
                  | (go_at_call 29
                     refine (s_nodes2 (S5.out.made GX3.out).tg N5.out).mono ?_
                     rintro e x4 ⟨Ac, nc, cc, rfl, nl2, g4⟩
                     have NL2 := Lib.hid nl2
                     have GX4 := Lib.hid (grown_trans' GX3.out g4)
                     have CO4 := Lib.hid (CO3.out.kept g4)
                     clear nl2 g4 o0 o1 o2 f0)
                  | (go_at_call 28
                     refine (nl_same (ts := [126, 124]) ⟨by decide, by decide⟩ NL1.out NL2.out (((Kp.none GY1.out).trans KQ.out).trans (Kp.none GX3.out)) (KQ.out.trans (Kp.none GX4.out))).mono ?_
                     rintro e x5 ⟨rfl, g5⟩
                     have GX5 := Lib.hid (grown_trans' GX4.out g5)
                     have CO5 := CO4.out.kept g5
                     have p0 := CO5.at_ (i := 0) (v := .slice Ao on co) rfl
                     have p1 := CO5.at_ (i := 1) (v := .slice Ae 0 ce) rfl
                     have p2 := CO5.at_ (i := 2) (v := .int .i64 0) rfl
                     clear g5 CO5))
                go_roundw
                case rel => exact ⟨j + 1, M', by go_num, by omega, S5.out.made GX5.out, N5.out⟩
                case measure => simp [intOf]; omega
              · obtain ⟨rfl, kq⟩ := Q5.out (quiet_code hc0)
                have KQ := Lib.hid kq
                clear kq
                have c1 : ((code : Int) == 0) = false := beq_eq_false_iff_ne.2 (by omega)
                have c2 : ((code : Int) != 0) = true := by rw [bne_iff_ne]; omega
                have b1 := (CX.out.kept GX2.out).at_ (i := 1) (v := .string ol) rfl
                rw [HX2.out] at b1
                try rw [show ((0 : Nat) : Int) = 0 from rfl] at b1
                go_wp2_with (first
                  | (have hx := TW0; clear hx TW0; go_at_call 31
                     rw [show x1.alloc (.cells #[.slice Ao on co, .slice Ae 0 ce, .int .i64 code] 57) = x2 from HX2.out.symm]
                     refine (WO.out _).mono ?_
                     rintro e x3 ⟨v, rfl, hr, g3⟩
                     rw [HWW.out] at hr
                     obtain ⟨gw, cw, cs, hv, -, -⟩ := rowX_open hr (by simp)
                     rw [List.length_map, List.length_cons, ← HNW.out] at hv
                     subst hv
                     have f0 : x3.cell? ⟨gw, 0, none⟩ = some (.string ⟨cExit.toArray⟩) := rowX_at (k := 0) (j := 0) (c := [kS cExit]) hr rfl rfl
                     have GX3 := Lib.hid (grown_trans' GX2.out g3)
                     have CO3 := Lib.hid (CO.out.kept g3)
                     have o0 := CO3.out.at_ (i := 0) (v := .slice Ao on co) rfl
                     have o1 := CO3.out.at_ (i := 1) (v := .slice Ae 0 ce) rfl
                     have o2 := CO3.out.at_ (i := 2) (v := .int .i64 code) rfl
                     clear hr g3 b1)
                  | (go_at_call 29
                     refine (s_nodes2 (S5.out.made GX3.out).tg N5.out).mono ?_
                     rintro e x4 ⟨Ac, nc, cc, rfl, nl2, g4⟩
                     have NL2 := Lib.hid nl2
                     have GX4 := Lib.hid (grown_trans' GX3.out g4)
                     have CO4 := Lib.hid (CO3.out.kept g4)
                     clear nl2 g4 o0 o1 o2 f0)
                  | (go_at_call 28
                     refine (nl_same (ts := [126, 124]) ⟨by decide, by decide⟩ NL1.out NL2.out (((Kp.none GY1.out).trans KQ.out).trans (Kp.none GX3.out)) (KQ.out.trans (Kp.none GX4.out))).mono ?_
                     rintro e x5 ⟨rfl, g5⟩
                     have GX5 := Lib.hid (grown_trans' GX4.out g5)
                     have CO5 := CO4.out.kept g5
                     have p0 := CO5.at_ (i := 0) (v := .slice Ao on co) rfl
                     have p1 := CO5.at_ (i := 1) (v := .slice Ae 0 ce) rfl
                     have p2 := CO5.at_ (i := 2) (v := .int .i64 code) rfl
                     clear g5 CO5))
                go_roundw
                case rel => exact ⟨j + 1, M', by go_num, by omega, S5.out.made GX5.out, N5.out⟩
                case measure => simp [intOf]; omega
              · obtain ⟨rfl, kq⟩ := Q5.out (quiet_code hc0)
                have KQ := Lib.hid kq
                clear kq
                have c1 : ((code : Int) == 0) = false := beq_eq_false_iff_ne.2 (by omega)
                have c2 : ((code : Int) != 0) = true := by rw [bne_iff_ne]; omega
                have e0 : (0 : Int) < (en : Int) := by omega
                have b1 := (CX.out.kept GX2.out).at_ (i := 1) (v := .string ol) rfl
                rw [HX2.out] at b1
                try rw [show ((0 : Nat) : Int) = 0 from rfl] at b1
                go_wp2_with (first
                  | (have hx := TW0; clear hx TW0; go_at_call 31
                     rw [show x1.alloc (.cells #[.slice Ao 0 co, .slice Ae en ce, .int .i64 code] 57) = x2 from HX2.out.symm]
                     refine (WO.out _).mono ?_
                     rintro e x3 ⟨v, rfl, hr, g3⟩
                     rw [HWW.out] at hr
                     obtain ⟨gw, cw, cs, hv, -, -⟩ := rowX_open hr (by simp)
                     rw [List.length_map, List.length_cons, ← HNW.out] at hv
                     subst hv
                     have f0 : x3.cell? ⟨gw, 0, none⟩ = some (.string ⟨cExit.toArray⟩) := rowX_at (k := 0) (j := 0) (c := [kS cExit]) hr rfl rfl
                     have GX3 := Lib.hid (grown_trans' GX2.out g3)
                     have CO3 := Lib.hid (CO.out.kept g3)
                     have o0 := CO3.out.at_ (i := 0) (v := .slice Ao 0 co) rfl
                     have o1 := CO3.out.at_ (i := 1) (v := .slice Ae en ce) rfl
                     have o2 := CO3.out.at_ (i := 2) (v := .int .i64 code) rfl
                     clear hr g3 b1)
                  | (go_at_call 29
                     refine (s_nodes2 (S5.out.made GX3.out).tg N5.out).mono ?_
                     rintro e x4 ⟨Ac, nc, cc, rfl, nl2, g4⟩
                     have NL2 := Lib.hid nl2
                     have GX4 := Lib.hid (grown_trans' GX3.out g4)
                     have CO4 := Lib.hid (CO3.out.kept g4)
                     clear nl2 g4 o0 o1 o2 f0)
                  | (go_at_call 28
                     refine (nl_same (ts := [126, 124]) ⟨by decide, by decide⟩ NL1.out NL2.out (((Kp.none GY1.out).trans KQ.out).trans (Kp.none GX3.out)) (KQ.out.trans (Kp.none GX4.out))).mono ?_
                     rintro e x5 ⟨rfl, g5⟩
                     have GX5 := Lib.hid (grown_trans' GX4.out g5)
                     have CO5 := CO4.out.kept g5
                     have p0 := CO5.at_ (i := 0) (v := .slice Ao 0 co) rfl
                     have p1 := CO5.at_ (i := 1) (v := .slice Ae en ce) rfl
                     have p2 := CO5.at_ (i := 2) (v := .int .i64 code) rfl
                     clear g5 CO5))
                go_roundw
                case rel => exact ⟨j + 1, M', by go_num, by omega, S5.out.made GX5.out, N5.out⟩
                case measure => simp [intOf]; omega
            have e1 : (c == [101, 99, 104, 111]) = false := beq_eq_false_iff_ne.2 h0
            have e2 : (c == [99, 97, 116]) = false := beq_eq_false_iff_ne.2 h1
            have e3 : (c == [108, 115]) = false := beq_eq_false_iff_ne.2 h2
            have e4 : (c == [119, 104, 111, 97, 109, 105]) = false := beq_eq_false_iff_ne.2 h3
            have e5 : (c == [101, 120, 105, 116]) = false := beq_eq_false_iff_ne.2 h4
            clear h0 h1 h2 h3 h4
            rcases herr with ⟨rfl, rfl⟩ | ⟨rfl, hc0⟩ | ⟨he0, rfl, hc0⟩
            · have b1 := (CX.out.kept GX2.out).at_ (i := 1) (v := .string ol) rfl
              rw [HX2.out] at b1
              try rw [show ((0 : Nat) : Int) = 0 from rfl] at b1
              go_wp2_with (first
                | (have hx := TW0; clear hx TW0; go_at_call 31
                   rw [show x1.alloc (.cells #[.slice Ao on co, .slice Ae 0 ce, .int .i64 0] 57) = x2 from HX2.out.symm]
                   refine (WO.out _).mono ?_
                   rintro e x3 ⟨v, rfl, hr, g3⟩
                   rw [HWW.out] at hr
                   obtain ⟨gw, cw, cs, hv, -, -⟩ := rowX_open hr (by simp)
                   rw [List.length_map, List.length_cons, ← HNW.out] at hv
                   subst hv
                   have f0 : x3.cell? ⟨gw, 0, none⟩ = some (.string ⟨c.toArray⟩) := rowX_at (k := 0) (j := 0) (c := [kS c]) hr rfl rfl
                   have GX3 := Lib.hid (grown_trans' GX2.out g3)
                   have CO3 := Lib.hid (CO.out.kept g3)
                   have o0 := CO3.out.at_ (i := 0) (v := .slice Ao on co) rfl
                   have o1 := CO3.out.at_ (i := 1) (v := .slice Ae 0 ce) rfl
                   have o2 := CO3.out.at_ (i := 2) (v := .int .i64 0) rfl
                   clear hr g3 b1))
              go_roundw
              case rel => exact ⟨j + 1, M', by go_num, by omega, S5.out.made GX3.out, N5.out⟩
              case measure => simp [intOf]; omega
            · obtain ⟨rfl, kq⟩ := Q5.out (quiet_code hc0)
              have KQ := Lib.hid kq
              clear kq
              have c1 : ((code : Int) == 0) = false := beq_eq_false_iff_ne.2 (by omega)
              have c2 : ((code : Int) != 0) = true := by rw [bne_iff_ne]; omega
              have b1 := (CX.out.kept GX2.out).at_ (i := 1) (v := .string ol) rfl
              rw [HX2.out] at b1
              try rw [show ((0 : Nat) : Int) = 0 from rfl] at b1
              go_wp2_with (first
                | (have hx := TW0; clear hx TW0; go_at_call 31
                   rw [show x1.alloc (.cells #[.slice Ao on co, .slice Ae 0 ce, .int .i64 code] 57) = x2 from HX2.out.symm]
                   refine (WO.out _).mono ?_
                   rintro e x3 ⟨v, rfl, hr, g3⟩
                   rw [HWW.out] at hr
                   obtain ⟨gw, cw, cs, hv, -, -⟩ := rowX_open hr (by simp)
                   rw [List.length_map, List.length_cons, ← HNW.out] at hv
                   subst hv
                   have f0 : x3.cell? ⟨gw, 0, none⟩ = some (.string ⟨c.toArray⟩) := rowX_at (k := 0) (j := 0) (c := [kS c]) hr rfl rfl
                   have GX3 := Lib.hid (grown_trans' GX2.out g3)
                   have CO3 := Lib.hid (CO.out.kept g3)
                   have o0 := CO3.out.at_ (i := 0) (v := .slice Ao on co) rfl
                   have o1 := CO3.out.at_ (i := 1) (v := .slice Ae 0 ce) rfl
                   have o2 := CO3.out.at_ (i := 2) (v := .int .i64 code) rfl
                   clear hr g3 b1)
                | (go_at_call 29
                   refine (s_nodes2 (S5.out.made GX3.out).tg N5.out).mono ?_
                   rintro e x4 ⟨Ac, nc, cc, rfl, nl2, g4⟩
                   have NL2 := Lib.hid nl2
                   have GX4 := Lib.hid (grown_trans' GX3.out g4)
                   have CO4 := Lib.hid (CO3.out.kept g4)
                   clear nl2 g4 o0 o1 o2 f0)
                | (go_at_call 28
                   refine (nl_same (ts := [126, 124]) ⟨by decide, by decide⟩ NL1.out NL2.out (((Kp.none GY1.out).trans KQ.out).trans (Kp.none GX3.out)) (KQ.out.trans (Kp.none GX4.out))).mono ?_
                   rintro e x5 ⟨rfl, g5⟩
                   have GX5 := Lib.hid (grown_trans' GX4.out g5)
                   have CO5 := CO4.out.kept g5
                   have p0 := CO5.at_ (i := 0) (v := .slice Ao on co) rfl
                   have p1 := CO5.at_ (i := 1) (v := .slice Ae 0 ce) rfl
                   have p2 := CO5.at_ (i := 2) (v := .int .i64 code) rfl
                   clear g5 CO5))
              go_roundw
              case rel => exact ⟨j + 1, M', by go_num, by omega, S5.out.made GX5.out, N5.out⟩
              case measure => simp [intOf]; omega
            · obtain ⟨rfl, kq⟩ := Q5.out (quiet_code hc0)
              have KQ := Lib.hid kq
              clear kq
              have c1 : ((code : Int) == 0) = false := beq_eq_false_iff_ne.2 (by omega)
              have c2 : ((code : Int) != 0) = true := by rw [bne_iff_ne]; omega
              have e0 : (0 : Int) < (en : Int) := by omega
              have b1 := (CX.out.kept GX2.out).at_ (i := 1) (v := .string ol) rfl
              rw [HX2.out] at b1
              try rw [show ((0 : Nat) : Int) = 0 from rfl] at b1
              go_wp2_with (first
                | (have hx := TW0; clear hx TW0; go_at_call 31
                   rw [show x1.alloc (.cells #[.slice Ao 0 co, .slice Ae en ce, .int .i64 code] 57) = x2 from HX2.out.symm]
                   refine (WO.out _).mono ?_
                   rintro e x3 ⟨v, rfl, hr, g3⟩
                   rw [HWW.out] at hr
                   obtain ⟨gw, cw, cs, hv, -, -⟩ := rowX_open hr (by simp)
                   rw [List.length_map, List.length_cons, ← HNW.out] at hv
                   subst hv
                   have f0 : x3.cell? ⟨gw, 0, none⟩ = some (.string ⟨c.toArray⟩) := rowX_at (k := 0) (j := 0) (c := [kS c]) hr rfl rfl
                   have GX3 := Lib.hid (grown_trans' GX2.out g3)
                   have CO3 := Lib.hid (CO.out.kept g3)
                   have o0 := CO3.out.at_ (i := 0) (v := .slice Ao 0 co) rfl
                   have o1 := CO3.out.at_ (i := 1) (v := .slice Ae en ce) rfl
                   have o2 := CO3.out.at_ (i := 2) (v := .int .i64 code) rfl
                   clear hr g3 b1)
                | (go_at_call 29
                   refine (s_nodes2 (S5.out.made GX3.out).tg N5.out).mono ?_
                   rintro e x4 ⟨Ac, nc, cc, rfl, nl2, g4⟩
                   have NL2 := Lib.hid nl2
                   have GX4 := Lib.hid (grown_trans' GX3.out g4)
                   have CO4 := Lib.hid (CO3.out.kept g4)
                   clear nl2 g4 o0 o1 o2 f0)
                | (go_at_call 28
                   refine (nl_same (ts := [126, 124]) ⟨by decide, by decide⟩ NL1.out NL2.out (((Kp.none GY1.out).trans KQ.out).trans (Kp.none GX3.out)) (KQ.out.trans (Kp.none GX4.out))).mono ?_
                   rintro e x5 ⟨rfl, g5⟩
                   have GX5 := Lib.hid (grown_trans' GX4.out g5)
                   have CO5 := CO4.out.kept g5
                   have p0 := CO5.at_ (i := 0) (v := .slice Ao 0 co) rfl
                   have p1 := CO5.at_ (i := 1) (v := .slice Ae en ce) rfl
                   have p2 := CO5.at_ (i := 2) (v := .int .i64 code) rfl
                   clear g5 CO5))
              go_roundw
              case rel => exact ⟨j + 1, M', by go_num, by omega, S5.out.made GX5.out, N5.out⟩
              case measure => simp [intOf]; omega
        · have hji : ¬ (j : Int) < (m : Int) := by omega
          obtain rfl : j = m := by omega
          have HNI := Lib.hid (show i + j ≤ 120 by have := HSM.out.1; have := HN.out; have := HSM'.out.1; have := HM.out; omega)
          have wq : wrap64 ((i : Int) + (j : Int)) = ((i + j : Nat) : Int) := by have := HNI.out; unfold wrap64; omega
          go_wp2_with (go_at_call 36
                       refine (log_any HS.out (by have := HNI.out; omega)).mono ?_
                       rintro e w9 ⟨A9, c9, rfl, g9⟩
                       have G9 := Lib.hid (grown_trans' HGW.out g9)
                       clear g9)
          go_ret
          exact ⟨rfl, below_of_none G9.out⟩
end Go.Proofs.YtlkchajkhplapaaGreatDoor
