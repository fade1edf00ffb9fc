/- The walk of TreeStranger. -/
import Derived.Test.YtmbmahpklkcioaaDoorTsi
namespace Go.Proofs.YtmbmahpklkcioaaDoor
open Go.RowKit Go.Maps Go.WideMaps

theorem two_of (k : Int) : bits .and .i64 k 1 = 0 ∨ bits .and .i64 k 1 = 1 := by
  obtain ⟨q, hq, hb⟩ := and_low k 1 (by decide)
  replace hb : bits .and .i64 k 1 = (q : Int) := hb
  rw [hb]
  have : q = 0 ∨ q = 1 := by omega
  rcases this with rfl | rfl
  · exact .inl rfl
  · exact .inr rfl
theorem eight_of (k : Int) : bits .and .i64 k 7 = 0 ∨ bits .and .i64 k 7 = 1 ∨ bits .and .i64 k 7 = 2 ∨ bits .and .i64 k 7 = 3 ∨ bits .and .i64 k 7 = 4 ∨ bits .and .i64 k 7 = 5 ∨ bits .and .i64 k 7 = 6 ∨ bits .and .i64 k 7 = 7 := by
  obtain ⟨q, hq, hb⟩ := and_low k 3 (by decide)
  replace hb : bits .and .i64 k 7 = (q : Int) := hb
  rw [hb]
  have : q < 8 := hq
  omega
/-- What a listing left. -/
structure Bef (w2 w3 : World) (M : List (List UInt8 × Nd)) (ks : List (List UInt8)) (A : Option Addr) (n c : Nat) (ys : List (List Value)) : Prop where
  ls : ListedM M ks
  row : RowX w3 w2.heap.size 42 5 (.slice A n c) ys
  at_ : NodesAt w2 w3 w2.heap.size M ks ys
  gr : w2.grownBy w3 none
  len : ys.length = n
theorem t_nodes {w0 w : World} {tb mb : Nat} {M : List (List UInt8 × Nd)} {q : Prop} (h : TG w0 w tb mb M) (hS : StrM q M) :
    Calls Tryd.prog 15 #[.pointer (some ⟨tb, 0, none⟩)] w fun e w' => ∃ ks A n c ys, e = .returned (.slice A n c) ∧ Bef w w' M ks A n c ys := by
  refine (nodes_any w tb mb M h.ts (by have := hS.len; omega) hS.short).mono ?_
  rintro e w' ⟨v, ks, cs, rfl, hks, hrow, hat, hg⟩
  obtain ⟨A, c, rfl, -, -⟩ := hrow.shape
  exact ⟨ks, A, cs.length, c, cs, rfl, hks, hrow, hat, hg, rfl⟩
theorem t_same {w2 w3 wr w6 : World} {M : List (List UInt8 × Nd)} {ks ks' : List (List UInt8)} {A A' : Option Addr} {n n' c c' : Nat} {ys xs : List (List Value)} (h1 : Bef w2 w3 M ks A n c ys) (h2 : Bef wr w6 M ks' A' n' c' xs) (hb : Below w3.heap.size w3 wr) :
    Calls Tryd.prog 20 #[.slice A' n' c', .slice A n c] w6 fun e w' => e = .returned (.bool true) ∧ w6.grownBy w' none := by
  have hk := listed_one h1.ls h2.ls
  subst hk
  have hlen : xs.length = n := by rw [h2.at_.1, ← h1.at_.1]; exact h1.len
  have hn : n' = n := h2.len.symm.trans hlen
  subst hn
  have hB6 : Below w3.heap.size w3 w6 := hb.trans ((below_of_none h2.gr).mono hb.size)
  have row6 := h1.row.none (none_of_below hB6 (Nat.le_refl _))
  obtain ⟨Ax, cx, ex, sx, -⟩ := h2.row.shape
  obtain ⟨Ay, cy, ey, sy, -⟩ := row6.shape
  simp only [Value.slice.injEq] at ex ey
  obtain ⟨rfl, -, rfl⟩ := ex
  obtain ⟨rfl, -, rfl⟩ := ey
  exact same_true w6 A' A n' c' c xs ys hlen h1.len sx sy (alike_of h1.at_ h2.at_ ((below_of_none h1.gr).trans (hb.mono h1.gr.size)) hB6)

set_option maxRecDepth 20000 in
set_option maxHeartbeats 16000000 in
theorem walk_TreeStranger (w : World) (A : Option Addr) (os : List Op8) (cap : Nat) (hr : RO w w.heap.size A os cap) (_hok : ∀ o ∈ os, o.ok) (A2 : Option Addr) (os2 : List Op8) (cap2 : Nat) (hr2 : RO w w.heap.size A2 os2 cap2) (_hok2 : ∀ o ∈ os2, o.ok) :
    Calls Tryd.prog 5 #[.slice A os.length cap, .slice A2 os2.length cap2] w fun e w' => e = .returned (.bool true) ∧ Below w.heap.size w w' := by
  obtain ⟨n1, hn1⟩ : ∃ n, os.length = n := ⟨_, rfl⟩
  obtain ⟨n2, hn2⟩ : ∃ n, os2.length = n := ⟨_, rfl⟩
  rw [hn1, hn2]
  have HR := Lib.hid hr
  have HR2 := Lib.hid hr2
  have HN1 := Lib.hid hn1
  have HN2 := Lib.hid hn2
  have hl1 : n1 ≤ 9223372036854775807 := by have := hr.1; have := hr.2.1; unfold maxLen at this; omega
  have hl2 : n2 ≤ 9223372036854775807 := by have := hr2.1; have := hr2.2.1; unfold maxLen at this; omega
  have TK0 := Lib.hid True.intro
  obtain ⟨g1, hg1⟩ : ∃ g, great8 os = g := ⟨_, rfl⟩
  obtain ⟨g2, hg2⟩ : ∃ g, great8 os2 = g := ⟨_, rfl⟩
  have HG1 := Lib.hid hg1
  have HG2 := Lib.hid hg2
  clear hr hr2 _hok _hok2 hn1 hn2 hg1 hg2
  cases g1 with
  | true =>
    go_enter Tryd.func5, Tryd.ntmps5
    go_wp2_with (first
      | (have hx := TK0; go_at_call 8; refine (speaks_any _).mono ?_; rintro e w0 ⟨rfl, g⟩; have G0 := Lib.hid g; clear g; clear hx TK0; have TK1 := Lib.hid True.intro)
      | (have hx := TK1; go_at_call 13; refine (great_any _ A os n1 cap HN1.out ((HR.out.below (below_of_none G0.out)).more G0.out.size)).mono ?_; rw [HG1.out]; rintro e wa ⟨rfl, g⟩; have G1 := Lib.hid (grown_trans' G0.out g); clear g; clear hx TK1; have TK2 := Lib.hid True.intro))
    go_ret
    exact ⟨rfl, below_of_none G1.out⟩
  | false =>
  cases g2 with
  | true =>
    go_enter Tryd.func5, Tryd.ntmps5
    go_wp2_with (first
      | (have hx := TK0; go_at_call 8; refine (speaks_any _).mono ?_; rintro e w0 ⟨rfl, g⟩; have G0 := Lib.hid g; clear g; clear hx TK0; have TK1 := Lib.hid True.intro)
      | (have hx := TK1; go_at_call 13; refine (great_any _ A os n1 cap HN1.out ((HR.out.below (below_of_none G0.out)).more G0.out.size)).mono ?_; rw [HG1.out]; rintro e wa ⟨rfl, g⟩; have G1 := Lib.hid (grown_trans' G0.out g); clear g; clear hx TK1; have TK2 := Lib.hid True.intro)
      | (have hx := TK2; go_at_call 13; refine (great_any _ A2 os2 n2 cap2 HN2.out ((HR2.out.below (below_of_none G1.out)).more G1.out.size)).mono ?_; rw [HG2.out]; rintro e wb ⟨rfl, g⟩; have G2 := Lib.hid (grown_trans' G1.out g); clear g; clear hx TK2; have TK3 := Lib.hid True.intro))
    go_ret
    exact ⟨rfl, below_of_none G2.out⟩
  | false =>
    have SM1 := Lib.hid (great8_no HG1.out).2
    have SM2 := Lib.hid (great8_no HG2.out).2
    go_enter Tryd.func5, Tryd.ntmps5
    go_wp2_with (first
      | (have hx := TK0; go_at_call 8; refine (speaks_any _).mono ?_; rintro e w0 ⟨rfl, g⟩; have G0 := Lib.hid g; clear g; clear hx TK0; have TK1 := Lib.hid True.intro)
      | (have hx := TK1; go_at_call 13; refine (great_any _ A os n1 cap HN1.out ((HR.out.below (below_of_none G0.out)).more G0.out.size)).mono ?_; rw [HG1.out]; rintro e wa ⟨rfl, g⟩; have G1 := Lib.hid (grown_trans' G0.out g); clear g; clear hx TK1; have TK2 := Lib.hid True.intro)
      | (have hx := TK2; go_at_call 13; refine (great_any _ A2 os2 n2 cap2 HN2.out ((HR2.out.below (below_of_none G1.out)).more G1.out.size)).mono ?_; rw [HG2.out]; rintro e wb ⟨rfl, g⟩; have G2 := Lib.hid (grown_trans' G1.out g); clear g; clear hx TK2; have TK3 := Lib.hid True.intro)
      | (have hx := TK3; go_at_call 9; refine (TG.new _).mono ?_; rintro e w1 ⟨tb, mb, b0, v0, rfl, t0, g0⟩; have T1 := Lib.hid (t0.since G2.out); clear t0 g0; clear hx TK3))
    go_loopw [27] (fun i wr => ∃ (k : Nat) (M : List (List UInt8 × Nd)), i = .int .i64 k ∧ k ≤ n1 ∧ Hid (TG w wr tb mb M) ∧ Hid (StrM False M)) (fun i _ => n1 - (intOf i).toNat)
    case atStart => exact ⟨0, _, rfl, Nat.zero_le _, T1.out, StrM.new b0 v0⟩
    case round =>
      obtain ⟨k, M, rfl, hk, HT, HS⟩ := hrel
      by_cases hlt : k < n1
      · have hki : (k : Int) < (n1 : Int) := by omega
        obtain ⟨b, off, rfl, hb, hc⟩ := HR.out.open_ (by rw [HN1.out]; omega)
        obtain ⟨o, ho⟩ : ∃ o, os[k]? = some o := ⟨_, List.getElem?_eq_getElem (by rw [HN1.out]; omega)⟩
        have HSZ := SM1.out o (List.mem_of_getElem? ho)
        have HPS := Lib.hid HSZ.path
        obtain ⟨V, c, r0, r1, r2, r3, r4, r5, hrb⟩ := hc k o ho
        have be := below_of_none HT.out.gr
        have q0 := (be.cell (p := ⟨b, off + k * 6, none⟩) hb).trans r0
        have q1 := (be.cell (p := ⟨b, off + k * 6 + 1, none⟩) hb).trans r1
        have q2 := (be.cell (p := ⟨b, off + k * 6 + 2, none⟩) hb).trans r2
        have q3 := (be.cell (p := ⟨b, off + k * 6 + 3, none⟩) hb).trans r3
        have q4 := (be.cell (p := ⟨b, off + k * 6 + 4, none⟩) hb).trans r4
        have q5 := (be.cell (p := ⟨b, off + k * 6 + 5, none⟩) hb).trans r5
        obtain ⟨ok, om, ow, opt, oo, ofb⟩ := o
        obtain ⟨ln, hln⟩ : ∃ ln, ofb.length = ln := ⟨_, rfl⟩
        simp only at q0 q1 q2 q3 q4 q5 hrb HPS
        rw [hln] at q5
        have HLN := Lib.hid hln
        clear ho hln hb
        have HB : Hid (TG w (wr.alloc (.cells #[.int .i64 ok, .int .i64 om, .string ow, .string opt, .string oo, .slice V ln c] 36)) tb mb M) := HT.out.below ((Below.refl _ _).alloc (Nat.le_refl _) _)
        have HRB : Hid (RB (wr.alloc (.cells #[.int .i64 ok, .int .i64 om, .string ow, .string opt, .string oo, .slice V ln c] 36)) (wr.alloc (.cells #[.int .i64 ok, .int .i64 om, .string ow, .string opt, .string oo, .slice V ln c] 36)).heap.size V ofb c) := ((hrb.below be).more be.size).alloc (Nat.le_refl _) _ |>.more (by rw [World.size_alloc]; omega)
        obtain ⟨x, hx63, hx6, hx⟩ := and56 om
        have HX := Lib.hid (And.intro hx63 hx6)
        rcases two_of ok with hz | hz
        · clear hc r0 r1 r2 r3 r4 r5 hrb be hx63 hx6 HSZ
          go_wp2_with (go_at_call 10; refine (r_mkdir HB.out HS.out opt HPS.out x HX.out.1 HX.out.2).mono ?_; rintro e w4 ⟨cc, M4, rfl, t4, s4⟩; have T4 := Lib.hid t4; have S4 := Lib.hid s4; clear t4 s4)
          go_roundw
          case rel => exact ⟨k + 1, M4, by go_num, by omega, T4.out, S4.out⟩
          case measure => simp [intOf]; omega
        · clear hc r0 r1 r2 r3 r4 r5 hrb be hx63 hx6 HSZ
          go_wp2_with (go_at_call 11; refine (r_write HB.out HS.out opt HPS.out V ofb ln c HLN.out HRB.out x HX.out.1 HX.out.2).mono ?_; rintro e w4 ⟨cc, M4, rfl, t4, s4⟩; have T4 := Lib.hid t4; have S4 := Lib.hid s4; clear t4 s4)
          go_roundw
          case rel => exact ⟨k + 1, M4, by go_num, by omega, T4.out, S4.out⟩
          case measure => simp [intOf]; omega
      · have hki : ¬ (k : Int) < (n1 : Int) := by omega
        have TK4 := Lib.hid True.intro
        go_wp2_with (first
          | (have hx := TK4; go_at_call 18; refine (r_shut HT.out HS.out).mono ?_; rintro e w2 ⟨cc, M2, rfl, t2, s2⟩; have T2 := Lib.hid t2; have S2 := Lib.hid s2; clear t2 s2; clear hx TK4; have TK5 := Lib.hid True.intro)
          | (have hx := TK5; go_at_call 15; refine (t_nodes T2.out S2.out).mono ?_; rintro e w3 ⟨ks, A3, n3, c3, ys, rfl, hbf⟩; have BF := Lib.hid hbf; have T3 := Lib.hid (T2.out.below (below_of_none hbf.gr)); clear hbf; clear hx TK5))
        go_loopw [57] (fun i wr => ∃ (k : Nat), i = .int .i64 k ∧ k ≤ n2 ∧ Hid (Below w3.heap.size w3 wr)) (fun i _ => n2 - (intOf i).toNat)
        case atStart => exact ⟨0, rfl, Nat.zero_le _, Below.refl _ _⟩
        case round =>
          rename World => wi
          obtain ⟨j, rfl, hj, HW⟩ := hrel
          have TI := Lib.hid (T3.out.below HW.out)
          by_cases hjl : j < n2
          · have hji : (j : Int) < (n2 : Int) := by omega
            obtain ⟨b, off, rfl, hb, hc⟩ := HR2.out.open_ (by rw [HN2.out]; omega)
            obtain ⟨o, ho⟩ : ∃ o, os2[j]? = some o := ⟨_, List.getElem?_eq_getElem (by rw [HN2.out]; omega)⟩
            have HSZ := SM2.out o (List.mem_of_getElem? ho)
            have HPS := Lib.hid HSZ.path
            obtain ⟨V, c, r0, r1, r2, r3, r4, r5, hrb⟩ := hc j o ho
            have be := below_of_none TI.out.gr
            have q0 := (be.cell (p := ⟨b, off + j * 6, none⟩) hb).trans r0
            have q1 := (be.cell (p := ⟨b, off + j * 6 + 1, none⟩) hb).trans r1
            have q2 := (be.cell (p := ⟨b, off + j * 6 + 2, none⟩) hb).trans r2
            have q3 := (be.cell (p := ⟨b, off + j * 6 + 3, none⟩) hb).trans r3
            have q4 := (be.cell (p := ⟨b, off + j * 6 + 4, none⟩) hb).trans r4
            have q5 := (be.cell (p := ⟨b, off + j * 6 + 5, none⟩) hb).trans r5
            obtain ⟨ok, om, ow, opt, oo, ofb⟩ := o
            obtain ⟨ln, hln⟩ : ∃ ln, ofb.length = ln := ⟨_, rfl⟩
            simp only at q0 q1 q2 q3 q4 q5 hrb HPS
            rw [hln] at q5
            have HLN := Lib.hid hln
            clear ho hln hb
            have HB : Hid (TG w (wi.alloc (.cells #[.int .i64 ok, .int .i64 om, .string ow, .string opt, .string oo, .slice V ln c] 36)) tb mb M2) := TI.out.below ((Below.refl _ _).alloc (Nat.le_refl _) _)
            have HBA : Hid (Below w3.heap.size w3 (wi.alloc (.cells #[.int .i64 ok, .int .i64 om, .string ow, .string opt, .string oo, .slice V ln c] 36))) := HW.out.alloc HW.out.size _
            rcases eight_of ok with hz | hz | hz | hz | hz | hz | hz | hz
            · clear hc r0 r1 r2 r3 r4 r5 hrb be HSZ
              go_wp2_with (go_at_call 14; refine (e_remove HB.out S2.out opt HPS.out).mono ?_; rintro e w5 ⟨cc, rfl, hb⟩; have HB5 := Lib.hid (HBA.out.trans (hb.mono HBA.out.size)); clear hb)
              go_roundw
              case rel => exact ⟨j + 1, by go_num, by omega, HB5.out⟩
              case measure => simp [intOf]; omega
            · clear hc r0 r1 r2 r3 r4 r5 hrb be HSZ
              go_wp2_with (go_at_call 18; refine (e_chmod HB.out S2.out opt HPS.out om).mono ?_; rintro e w5 ⟨cc, rfl, hb⟩; have HB5 := Lib.hid (HBA.out.trans (hb.mono HBA.out.size)); clear hb)
              go_roundw
              case rel => exact ⟨j + 1, by go_num, by omega, HB5.out⟩
              case measure => simp [intOf]; omega
            · clear hc r0 r1 r2 r3 r4 r5 hrb be HSZ
              go_wp2_with (go_at_call 19; refine (e_give HB.out opt HPS.out).mono ?_; rintro e w5 ⟨cc, rfl, hb⟩; have HB5 := Lib.hid (HBA.out.trans (hb.mono HBA.out.size)); clear hb)
              go_roundw
              case rel => exact ⟨j + 1, by go_num, by omega, HB5.out⟩
              case measure => simp [intOf]; omega
            · clear hc r0 r1 r2 r3 r4 r5 hrb be HSZ
              go_wp2_with (go_at_call 10; refine (e_mkdir HB.out S2.out opt HPS.out om).mono ?_; rintro e w5 ⟨cc, rfl, hb⟩; have HB5 := Lib.hid (HBA.out.trans (hb.mono HBA.out.size)); clear hb)
              go_roundw
              case rel => exact ⟨j + 1, by go_num, by omega, HB5.out⟩
              case measure => simp [intOf]; omega
            · clear hc r0 r1 r2 r3 r4 r5 hrb be HSZ
              go_wp2_with (go_at_call 12; refine (e_read HB.out S2.out opt HPS.out).mono ?_; rintro e w5 ⟨cc, h0, rfl, hb⟩; have hcq : (cc == 0) = false := beq_eq_false_iff_ne.2 h0; have HB5 := Lib.hid (HBA.out.trans (hb.mono HBA.out.size)); clear hb)
              go_roundw
              case rel => exact ⟨j + 1, by go_num, by omega, HB5.out⟩
              case measure => simp [intOf]; omega
            · clear hc r0 r1 r2 r3 r4 r5 hrb be HSZ
              go_wp2_with (go_at_call 11; refine (e_write HB.out S2.out opt HPS.out V ln c om).mono ?_; rintro e w5 ⟨cc, rfl, hb⟩; have HB5 := Lib.hid (HBA.out.trans (hb.mono HBA.out.size)); clear hb)
              go_roundw
              case rel => exact ⟨j + 1, by go_num, by omega, HB5.out⟩
              case measure => simp [intOf]; omega
            · clear hc r0 r1 r2 r3 r4 r5 hrb be HSZ
              go_wp2_with (go_at_call 11; refine (e_write HB.out S2.out opt HPS.out V ln c om).mono ?_; rintro e w5 ⟨cc, rfl, hb⟩; have HB5 := Lib.hid (HBA.out.trans (hb.mono HBA.out.size)); clear hb)
              go_roundw
              case rel => exact ⟨j + 1, by go_num, by omega, HB5.out⟩
              case measure => simp [intOf]; omega
            · clear hc r0 r1 r2 r3 r4 r5 hrb be HSZ
              go_wp2_with (go_at_call 11; refine (e_write HB.out S2.out opt HPS.out V ln c om).mono ?_; rintro e w5 ⟨cc, rfl, hb⟩; have HB5 := Lib.hid (HBA.out.trans (hb.mono HBA.out.size)); clear hb)
              go_roundw
              case rel => exact ⟨j + 1, by go_num, by omega, HB5.out⟩
              case measure => simp [intOf]; omega
          · have hji : ¬ (j : Int) < (n2 : Int) := by omega
            have TK6 := Lib.hid True.intro
            go_wp2_with (first
              | (have hx := TK6; go_at_call 15; refine (t_nodes TI.out S2.out).mono ?_; rintro e w6 ⟨ks6, A6, n6, c6, xs, rfl, hbf⟩; have BF6 := Lib.hid hbf; have T6 := Lib.hid (TI.out.below (below_of_none hbf.gr)); clear hbf; clear hx TK6; have TK7 := Lib.hid True.intro)
              | (have hx := TK7; go_at_call 20; refine (t_same BF.out BF6.out HW.out).mono ?_; rintro e w7 ⟨rfl, g7⟩; have G7 := Lib.hid (grown_trans' T6.out.gr g7); clear g7; clear hx TK7))
            go_ret
            exact ⟨rfl, below_of_none G7.out⟩
end Go.Proofs.YtmbmahpklkcioaaDoor
