/- The walk of MacLabels. -/
import Derived.Test.YtbpkaaajcimcgaaDoorDer
import Derived.Test.YtbpkaaajcimcgaaDoorEqW
import Derived.Test.YtbpkaaajcimcgaaDoorEqa
import Derived.Deep.Cut
namespace Go.Proofs.YtbpkaaajcimcgaaDoor
open Go.RowKit

theorem yields_loadC {P : Program} {ops : Array Oper} {S : World → Prop} {oi : Oper} {a : Act} {ty t : TypeId} {n g off : Nat} {cs p : List Value} (hT : AggT P ty n) (x : Operand) (ho : oi.op = .load ty x) (hw : Region.wanted oi (yielded ops a.tmps) = true) (h : ∀ wx, S wx → CB wx g t cs) (hp : (cs.drop off).take n = p) (hl : off + n ≤ cs.length) (hx : a.eval x = .pointer (some ⟨g, off, none⟩)) :
    YieldsIf P ops S oi (.agg p.toArray) a := by
  refine .inl ⟨hw, fun wx hS => ?_⟩
  have hr := run_loadC hT (h wx hS) hp hl
  unfold execOp
  simp only [ho, hx, Instr.loadAt, Instr.sureAddr, Sem.run_bind, Sem.run_pure, Result.andThen_ok, hr]
theorem numB_zero : numB 0 = [] := rfl

set_option maxRecDepth 10000 in
set_option maxHeartbeats 1000000 in
theorem walk_MacLabels (w : World) (hT : TB w) (key : List UInt8) (hk : key.length = 16) (s1 : ByteArray) (_ : s1.size ≤ maxLen) (s2 : ByteArray) (_ : s2.size ≤ maxLen) :
    Calls Tryd.prog 7 #[.agg (bcells key).toArray, .string s1, .string s2] w fun e w' => e = .returned (.bool true) ∧ Below w.heap.size w w' := by
  have HT := Lib.hid hT
  obtain ⟨a1, hs1⟩ : ∃ l, s1.data.toList = l := ⟨_, rfl⟩
  obtain ⟨a2, hs2⟩ : ∃ l, s2.data.toList = l := ⟨_, rfl⟩
  have hz1 : s1.size = a1.length := by rw [← hs1]; rfl
  have hz2 : s2.size = a2.length := by rw [← hs2]; rfl
  obtain ⟨n1, hn1⟩ : ∃ n, s1.size = n := ⟨_, rfl⟩
  obtain ⟨n2, hn2⟩ : ∃ n, s2.size = n := ⟨_, rfl⟩
  have HS1 := Lib.hid hs1
  have HK := Lib.hid hk
  by_cases hb1 : 100 < n1
  · have hb1i : (100 : Int) < (n1 : Int) := by omega
    clear hz1 hz2 hs1 hs2 hk hT
    go_enter Tryd.func7, Tryd.ntmps7
    have GA := Lib.hid (grown_alloc w (.cells (bcells key).toArray 29) none)
    go_wp2_with (go_at_call 8; refine (speaks_any _ (HT.out.grown GA.out (fun e => by cases e))).mono ?_; rintro e w1 ⟨rfl, g1⟩; have G1 := Lib.hid (grown_trans' GA.out g1); clear g1)
    go_ret
    exact ⟨rfl, below_of_none G1.out⟩
  · have hb1i : ¬ ((100 : Int) < (n1 : Int)) := by omega
    by_cases hb2 : 100 < n2
    · have hb2i : (100 : Int) < (n2 : Int) := by omega
      clear hz1 hz2 hs1 hs2 hk hT
      go_enter Tryd.func7, Tryd.ntmps7
      have GA := Lib.hid (grown_alloc w (.cells (bcells key).toArray 29) none)
      go_wp2_with (go_at_call 8; refine (speaks_any _ (HT.out.grown GA.out (fun e => by cases e))).mono ?_; rintro e w1 ⟨rfl, g1⟩; have G1 := Lib.hid (grown_trans' GA.out g1); clear g1)
      go_ret
      exact ⟨rfl, below_of_none G1.out⟩
    · have hb2i : ¬ ((100 : Int) < (n2 : Int)) := by omega
      have HLB1 := Lib.hid (show a1.length ≤ 100 by omega)
      have HSS1 := Lib.hid (show s1.size ≤ 70368744177664 by omega)
      obtain ⟨L, hL⟩ : ∃ L, L = a1 ++ [0] := ⟨_, rfl⟩
      obtain ⟨na1, hna⟩ : ∃ n, L.length = n := ⟨_, rfl⟩
      have HL := Lib.hid (hL.symm)
      have HLN := Lib.hid hna
      have HNB := Lib.hid (show na1 ≤ 101 by rw [← hna, hL, List.length_append]; simp; omega)
      obtain ⟨M, hM⟩ : ∃ M, M = macOf key L := ⟨_, rfl⟩
      obtain ⟨D, hD⟩ : ∃ D, D = deriveOf key a1 0 := ⟨_, rfl⟩
      have HHL := Lib.hid (show M.length = 32 by rw [hM, macOf_length])
      have HDL := Lib.hid (show D.length = 16 by rw [hD, deriveOf_length])
      have HMD := Lib.hid (show M.take 16 = D by rw [hM, hD, hL, deriveOf, numB_zero, List.append_nil])
      have HH := Lib.hid hM
      have HDD := Lib.hid hD
      have HEQ := Lib.hid (fun W => show (binOp .eql 29 (.agg (bcells D).toArray) (.agg (bcells D).toArray)).run Tryd.prog W = .ok (.bool true) W by rw [run_binEqB (P := Tryd.prog) arrKey sz8 Tryd.underlying5 HDL.out HDL.out W, beq_self_eq_true])
      clear hz1 hz2 hk hT hL hna hM hD
      go_enter Tryd.func7, Tryd.ntmps7
      have GA := Lib.hid (grown_alloc w (.cells (bcells key).toArray 29) none)
      go_wp2_with (go_at_call 8; refine (speaks_any _ (HT.out.grown GA.out (fun e => by cases e))).mono ?_; rintro e w1 ⟨rfl, g1⟩; have G1 := Lib.hid (grown_trans' GA.out g1); have B1 := Lib.hid ((CB.new w 29 (bcells key)).kept g1); clear g1)
      go_cut [7] from 19 (fun s7 wx => ∃ g, s7 = .pointer (some ⟨g, 0, none⟩) ∧ CB wx g 25 (bcells M) ∧ CB wx w.heap.size 29 (bcells key) ∧ w.grownBy wx none)
      case first =>
        have GW := Lib.hid (grown_drew G1.out)
        have HB := Lib.hid B1.out.drew
        refine heldb_begin w1.drew.heap.size (by kernel_rfl) (fun hS1 => ?_)
        have G0 := Lib.hid (World.grownBy.refl w1.drew none)
        have hsz : w1.drew.heap.size = w1.heap.size := rfl
        generalize hwd : w1.drew = wd at *
        refine heldb_take (i := 0) (d := some 19) (v := ?vq5x1) (by assumption) rfl rfl (by kernel_rfl) (fun _ _ _ h => h) ?yq5x1 ?_; case yq5x1 => (refine Or.inl ⟨rfl, fun wx hS => ?_⟩; go_simp; try with_reducible rfl)
        try simp only [Act.put, List.setIfInBounds_toArray, List.set_cons_zero, List.set_cons_succ]
        refine heldb_take (i := 1) (d := some 20) (v := ?vq5x2) (by assumption) rfl rfl (by kernel_rfl) (fun _ _ _ h => h) ?yq5x2 ?_; case yq5x2 => (refine Or.inl ⟨rfl, fun wx hS => ?_⟩; go_simp; try with_reducible rfl)
        try simp only [Act.put, List.setIfInBounds_toArray, List.set_cons_zero, List.set_cons_succ]
        refine heldb_three (i := 2) (j := 3) (k := 6) (by kernel_rfl) rfl rfl rfl rfl rfl rfl (fun K hK => ?_) (fun K hK => ?_) (fun K hK => ?_)
        · refine wp_convG (d := some 21) byteT Tryd.underlying9 rfl (.tmp 20) rfl s1 HSS1.out rfl ?_
          intro v5x4 w5x3 o5x5 g5x6 h5x7
          rw [HS1.out] at o5x5
          have G5x8 := Lib.hid (grown_trans' G0.out g5x6)
          have O5x9 := Lib.hid (o5x5.base_ G0.out.size)
          have hb := below_of_none G5x8.out
          refine hK.out _ _ hb (fun hS5x10 => ?_)
          clear hb hK K
          try simp only [Act.put, List.setIfInBounds_toArray, List.set_cons_zero, List.set_cons_succ]
          clear o5x5 g5x6 h5x7
          refine heldb_two (i := 3) (j := 6) (by kernel_rfl) rfl rfl rfl rfl (fun K hK => ?_) (fun K hK => ?_)
          · refine wp_lit1 (d := some 22) (e := 5) 0 0 rfl rfl (by go_simp) ?_
            intro g5x12 w5x11 h5x15 r5x13 k5x14
            have G5x16 := Lib.hid (grown_trans' G5x8.out k5x14)
            have O5x17 := Lib.hid (O5x9.out.kept k5x14)
            have R5x18 := Lib.hid r5x13
            have hb := below_of_none G5x16.out
            refine hK.out _ _ hb (fun hS5x19 => ?_)
            clear hb hK K
            try simp only [Act.put, List.setIfInBounds_toArray, List.set_cons_zero, List.set_cons_succ]
            clear r5x13 k5x14 h5x15
            refine heldb_two (i := 4) (j := 6) (by kernel_rfl) rfl rfl rfl rfl (fun K hK => ?_) (fun K hK => ?_)
            · refine wp_appG (d := some 23) byteT rfl (.tmp 21) (.tmp 22) rfl O5x17.out (R5x18.out) rfl rfl (by have := HLB1.out; simp; omega) G5x16.out.size ?_
              intro v5x21 w5x20 o5x22 g5x23 h5x24
              rw [HL.out] at o5x22
              have G5x25 := Lib.hid (grownR G5x16.out g5x23 (fun x hx => (O5x17.out.lt_ x hx).1))
              have O5x27 := Lib.hid o5x22
              have hb := below_of_none G5x25.out
              refine hK.out _ _ hb (fun hS5x28 => ?_)
              clear hb hK K
              try simp only [Act.put, List.setIfInBounds_toArray, List.set_cons_zero, List.set_cons_succ]
              clear o5x22 g5x23 h5x24
              refine heldb_two (i := 5) (j := 6) (by kernel_rfl) rfl rfl rfl rfl (fun K hK => ?_) (fun K hK => ?_)
              · obtain ⟨A5x29, c5x30, rfl, r5x31, -⟩ := O5x27.out.shape
                rw [HLN.out]
                go_simp
                refine (macSum_any 16 16 na1 c5x30 _ A5x29 key L _ (HT.out.grown (grown_trans' GW.out G5x25.out) (fun e => by cases e)) HK.out (by omega) (RB.of_CB (HB.out.kept G5x25.out) (by rw [HK.out]; unfold maxLen; omega) HK.out) HLN.out (by have := HNB.out; omega) r5x31).mono ?_
                rintro e w5x32 ⟨rfl, g5x33⟩
                rw [← HH.out]
                have G5x34 := Lib.hid (grown_trans' G5x25.out g5x33)
                have hb := below_of_none G5x34.out
                refine hK.out _ _ hb (fun hS5x35 => ?_)
                clear hb hK K
                try simp only [Act.put, List.setIfInBounds_toArray, List.set_cons_zero, List.set_cons_succ]
                clear g5x33 r5x31
                refine heldb_one (i := 6) rfl (by kernel_rfl) rfl (fun K hK => ?_)
                refine wp_allocC (d := some 7) zeroB32 rfl rfl ?_
                intro g5x37 w5x36 h5x40 c5x38 k5x39
                have G5x41 := Lib.hid (grown_trans' G5x34.out k5x39)
                have C5x42 := Lib.hid c5x38
                have B5x43 := Lib.hid (show wd.heap.size ≤ g5x37 by rw [h5x40]; exact G5x34.out.size)
                have hb := below_of_none G5x41.out
                refine hK.out _ _ hb (fun hS5x44 => ?_)
                clear hb hK K
                try simp only [Act.put, List.setIfInBounds_toArray, List.set_cons_zero, List.set_cons_succ]
                clear c5x38 k5x39 h5x40
                refine heldb_one (i := 7) rfl (by kernel_rfl) rfl (fun K hK => ?_)
                refine wp_storeC (d := none) (off := 0) (p := bcells M) agg32.hi rfl (.tmp 7) (.tmp 24) rfl (.agg (bcells M).toArray) rfl (bcells_one _) C5x42.out (by rw [bcells_length, HHL.out]) (by rw [bcells_length, zeros_length]; omega) rfl rfl ?_
                intro w5x45 c5x46 k5x47
                rw [over_all _ _ (by rw [bcells_length, bcells_length, HHL.out, zeros_length]; exact Nat.le_refl _)] at c5x46
                have G5x48 := Lib.hid (none_new G5x41.out k5x47 B5x43.out)
                have C5x51 := Lib.hid c5x46
                have hb := below_of_none G5x48.out
                refine hK.out _ _ hb (fun hS5x52 => ?_)
                clear hb hK K
                clear c5x46 k5x47
                refine held_end (by kernel_rfl) ?_ _
                go_wp2
                go_meet
                case rel => exact ⟨g5x37, rfl, C5x51.out, HB.out.kept G5x48.out, grown_trans' GW.out G5x48.out⟩
              · refine wp_allocC (d := some 7) zeroB32 rfl rfl ?_
                intro g5x54 w5x53 h5x57 c5x55 k5x56
                have G5x58 := Lib.hid (grown_trans' G5x25.out k5x56)
                have O5x59 := Lib.hid (O5x27.out.kept k5x56)
                have C5x60 := Lib.hid c5x55
                have B5x61 := Lib.hid (show wd.heap.size ≤ g5x54 by rw [h5x57]; exact G5x25.out.size)
                have N5x62 := Lib.hid (show ∀ x, v5x21.ownBlock = some x → x ≠ g5x54 from fun x hx => by have := (O5x27.out.lt_ x hx).2; omega)
                have hb := below_of_none G5x58.out
                refine hK.out _ _ hb (fun hS5x63 => ?_)
                clear hb hK K
                try simp only [Act.put, List.setIfInBounds_toArray, List.set_cons_zero, List.set_cons_succ]
                clear c5x55 k5x56 h5x57
                refine heldb_one (i := 5) rfl (by kernel_rfl) rfl (fun K hK => ?_)
                obtain ⟨A5x64, c5x65, rfl, r5x66, -⟩ := O5x59.out.shape
                rw [HLN.out]
                go_simp
                refine (macSum_any 16 16 na1 c5x65 _ A5x64 key L _ (HT.out.grown (grown_trans' GW.out G5x58.out) (fun e => by cases e)) HK.out (by omega) (RB.of_CB (HB.out.kept G5x58.out) (by rw [HK.out]; unfold maxLen; omega) HK.out) HLN.out (by have := HNB.out; omega) r5x66).mono ?_
                rintro e w5x67 ⟨rfl, g5x68⟩
                rw [← HH.out]
                have G5x69 := Lib.hid (grown_trans' G5x58.out g5x68)
                have C5x70 := Lib.hid (C5x60.out.kept g5x68)
                have hb := below_of_none G5x69.out
                refine hK.out _ _ hb (fun hS5x72 => ?_)
                clear hb hK K
                try simp only [Act.put, List.setIfInBounds_toArray, List.set_cons_zero, List.set_cons_succ]
                clear g5x68 r5x66
                refine heldb_one (i := 7) rfl (by kernel_rfl) rfl (fun K hK => ?_)
                refine wp_storeC (d := none) (off := 0) (p := bcells M) agg32.hi rfl (.tmp 7) (.tmp 24) rfl (.agg (bcells M).toArray) rfl (bcells_one _) C5x70.out (by rw [bcells_length, HHL.out]) (by rw [bcells_length, zeros_length]; omega) rfl rfl ?_
                intro w5x73 c5x74 k5x75
                rw [over_all _ _ (by rw [bcells_length, bcells_length, HHL.out, zeros_length]; exact Nat.le_refl _)] at c5x74
                have G5x76 := Lib.hid (none_new G5x69.out k5x75 B5x61.out)
                have C5x79 := Lib.hid c5x74
                have hb := below_of_none G5x76.out
                refine hK.out _ _ hb (fun hS5x80 => ?_)
                clear hb hK K
                clear c5x74 k5x75
                refine held_end (by kernel_rfl) ?_ _
                go_wp2
                go_meet
                case rel => exact ⟨g5x54, rfl, C5x79.out, HB.out.kept G5x76.out, grown_trans' GW.out G5x76.out⟩
            · refine wp_allocC (d := some 7) zeroB32 rfl rfl ?_
              intro g5x82 w5x81 h5x85 c5x83 k5x84
              have G5x86 := Lib.hid (grown_trans' G5x16.out k5x84)
              have O5x87 := Lib.hid (O5x17.out.kept k5x84)
              have R5x88 := Lib.hid (R5x18.out.row_ k5x84)
              have C5x89 := Lib.hid c5x83
              have B5x90 := Lib.hid (show wd.heap.size ≤ g5x82 by rw [h5x85]; exact G5x16.out.size)
              have N5x91 := Lib.hid (show ∀ x, v5x4.ownBlock = some x → x ≠ g5x82 from fun x hx => by have := (O5x17.out.lt_ x hx).2; omega)
              have hb := below_of_none G5x86.out
              refine hK.out _ _ hb (fun hS5x92 => ?_)
              clear hb hK K
              try simp only [Act.put, List.setIfInBounds_toArray, List.set_cons_zero, List.set_cons_succ]
              clear c5x83 k5x84 h5x85
              refine heldb_one (i := 4) rfl (by kernel_rfl) rfl (fun K hK => ?_)
              refine wp_appG (d := some 23) byteT rfl (.tmp 21) (.tmp 22) rfl O5x87.out (R5x88.out) rfl rfl (by have := HLB1.out; simp; omega) G5x86.out.size ?_
              intro v5x94 w5x93 o5x95 g5x96 h5x97
              rw [HL.out] at o5x95
              have G5x98 := Lib.hid (grownR G5x86.out g5x96 (fun x hx => (O5x87.out.lt_ x hx).1))
              have C5x100 := Lib.hid (C5x89.out.row g5x96 (fun x hx => N5x91.out x hx))
              have O5x103 := Lib.hid o5x95
              have N5x104 := Lib.hid (show ∀ x, v5x94.ownBlock = some x → x ≠ g5x82 from fun x hx => by
                rcases h5x97 with h | h
                · rw [h] at hx; exact N5x91.out x hx
                · rw [h] at hx; injection hx with hx; have := C5x89.out.lt; omega)
              have hb := below_of_none G5x98.out
              refine hK.out _ _ hb (fun hS5x105 => ?_)
              clear hb hK K
              try simp only [Act.put, List.setIfInBounds_toArray, List.set_cons_zero, List.set_cons_succ]
              clear o5x95 g5x96 h5x97
              refine heldb_one (i := 5) rfl (by kernel_rfl) rfl (fun K hK => ?_)
              obtain ⟨A5x106, c5x107, rfl, r5x108, -⟩ := O5x103.out.shape
              rw [HLN.out]
              go_simp
              refine (macSum_any 16 16 na1 c5x107 _ A5x106 key L _ (HT.out.grown (grown_trans' GW.out G5x98.out) (fun e => by cases e)) HK.out (by omega) (RB.of_CB (HB.out.kept G5x98.out) (by rw [HK.out]; unfold maxLen; omega) HK.out) HLN.out (by have := HNB.out; omega) r5x108).mono ?_
              rintro e w5x109 ⟨rfl, g5x110⟩
              rw [← HH.out]
              have G5x111 := Lib.hid (grown_trans' G5x98.out g5x110)
              have C5x112 := Lib.hid (C5x100.out.kept g5x110)
              have hb := below_of_none G5x111.out
              refine hK.out _ _ hb (fun hS5x115 => ?_)
              clear hb hK K
              try simp only [Act.put, List.setIfInBounds_toArray, List.set_cons_zero, List.set_cons_succ]
              clear g5x110 r5x108
              refine heldb_one (i := 7) rfl (by kernel_rfl) rfl (fun K hK => ?_)
              refine wp_storeC (d := none) (off := 0) (p := bcells M) agg32.hi rfl (.tmp 7) (.tmp 24) rfl (.agg (bcells M).toArray) rfl (bcells_one _) C5x112.out (by rw [bcells_length, HHL.out]) (by rw [bcells_length, zeros_length]; omega) rfl rfl ?_
              intro w5x116 c5x117 k5x118
              rw [over_all _ _ (by rw [bcells_length, bcells_length, HHL.out, zeros_length]; exact Nat.le_refl _)] at c5x117
              have G5x119 := Lib.hid (none_new G5x111.out k5x118 B5x90.out)
              have C5x123 := Lib.hid c5x117
              have hb := below_of_none G5x119.out
              refine hK.out _ _ hb (fun hS5x124 => ?_)
              clear hb hK K
              clear c5x117 k5x118
              refine held_end (by kernel_rfl) ?_ _
              go_wp2
              go_meet
              case rel => exact ⟨g5x82, rfl, C5x123.out, HB.out.kept G5x119.out, grown_trans' GW.out G5x119.out⟩
          · refine wp_allocC (d := some 7) zeroB32 rfl rfl ?_
            intro g5x126 w5x125 h5x129 c5x127 k5x128
            have G5x130 := Lib.hid (grown_trans' G5x8.out k5x128)
            have O5x131 := Lib.hid (O5x9.out.kept k5x128)
            have C5x132 := Lib.hid c5x127
            have B5x133 := Lib.hid (show wd.heap.size ≤ g5x126 by rw [h5x129]; exact G5x8.out.size)
            have N5x134 := Lib.hid (show ∀ x, v5x4.ownBlock = some x → x ≠ g5x126 from fun x hx => by have := (O5x9.out.lt_ x hx).2; omega)
            have hb := below_of_none G5x130.out
            refine hK.out _ _ hb (fun hS5x135 => ?_)
            clear hb hK K
            try simp only [Act.put, List.setIfInBounds_toArray, List.set_cons_zero, List.set_cons_succ]
            clear c5x127 k5x128 h5x129
            refine heldb_one (i := 3) rfl (by kernel_rfl) rfl (fun K hK => ?_)
            refine wp_lit1 (d := some 22) (e := 5) 0 0 rfl rfl (by go_simp) ?_
            intro g5x137 w5x136 h5x140 r5x138 k5x139
            have G5x141 := Lib.hid (grown_trans' G5x130.out k5x139)
            have O5x142 := Lib.hid (O5x131.out.kept k5x139)
            have C5x143 := Lib.hid (C5x132.out.kept k5x139)
            have R5x146 := Lib.hid r5x138
            have hb := below_of_none G5x141.out
            refine hK.out _ _ hb (fun hS5x147 => ?_)
            clear hb hK K
            try simp only [Act.put, List.setIfInBounds_toArray, List.set_cons_zero, List.set_cons_succ]
            clear r5x138 k5x139 h5x140
            refine heldb_one (i := 4) rfl (by kernel_rfl) rfl (fun K hK => ?_)
            refine wp_appG (d := some 23) byteT rfl (.tmp 21) (.tmp 22) rfl O5x142.out (R5x146.out) rfl rfl (by have := HLB1.out; simp; omega) G5x141.out.size ?_
            intro v5x149 w5x148 o5x150 g5x151 h5x152
            rw [HL.out] at o5x150
            have G5x153 := Lib.hid (grownR G5x141.out g5x151 (fun x hx => (O5x142.out.lt_ x hx).1))
            have C5x155 := Lib.hid (C5x143.out.row g5x151 (fun x hx => N5x134.out x hx))
            have O5x158 := Lib.hid o5x150
            have N5x159 := Lib.hid (show ∀ x, v5x149.ownBlock = some x → x ≠ g5x126 from fun x hx => by
              rcases h5x152 with h | h
              · rw [h] at hx; exact N5x134.out x hx
              · rw [h] at hx; injection hx with hx; have := C5x143.out.lt; omega)
            have hb := below_of_none G5x153.out
            refine hK.out _ _ hb (fun hS5x160 => ?_)
            clear hb hK K
            try simp only [Act.put, List.setIfInBounds_toArray, List.set_cons_zero, List.set_cons_succ]
            clear o5x150 g5x151 h5x152
            refine heldb_one (i := 5) rfl (by kernel_rfl) rfl (fun K hK => ?_)
            obtain ⟨A5x161, c5x162, rfl, r5x163, -⟩ := O5x158.out.shape
            rw [HLN.out]
            go_simp
            refine (macSum_any 16 16 na1 c5x162 _ A5x161 key L _ (HT.out.grown (grown_trans' GW.out G5x153.out) (fun e => by cases e)) HK.out (by omega) (RB.of_CB (HB.out.kept G5x153.out) (by rw [HK.out]; unfold maxLen; omega) HK.out) HLN.out (by have := HNB.out; omega) r5x163).mono ?_
            rintro e w5x164 ⟨rfl, g5x165⟩
            rw [← HH.out]
            have G5x166 := Lib.hid (grown_trans' G5x153.out g5x165)
            have C5x167 := Lib.hid (C5x155.out.kept g5x165)
            have hb := below_of_none G5x166.out
            refine hK.out _ _ hb (fun hS5x170 => ?_)
            clear hb hK K
            try simp only [Act.put, List.setIfInBounds_toArray, List.set_cons_zero, List.set_cons_succ]
            clear g5x165 r5x163
            refine heldb_one (i := 7) rfl (by kernel_rfl) rfl (fun K hK => ?_)
            refine wp_storeC (d := none) (off := 0) (p := bcells M) agg32.hi rfl (.tmp 7) (.tmp 24) rfl (.agg (bcells M).toArray) rfl (bcells_one _) C5x167.out (by rw [bcells_length, HHL.out]) (by rw [bcells_length, zeros_length]; omega) rfl rfl ?_
            intro w5x171 c5x172 k5x173
            rw [over_all _ _ (by rw [bcells_length, bcells_length, HHL.out, zeros_length]; exact Nat.le_refl _)] at c5x172
            have G5x174 := Lib.hid (none_new G5x166.out k5x173 B5x133.out)
            have C5x178 := Lib.hid c5x172
            have hb := below_of_none G5x174.out
            refine hK.out _ _ hb (fun hS5x179 => ?_)
            clear hb hK K
            clear c5x172 k5x173
            refine held_end (by kernel_rfl) ?_ _
            go_wp2
            go_meet
            case rel => exact ⟨g5x126, rfl, C5x178.out, HB.out.kept G5x174.out, grown_trans' GW.out G5x174.out⟩
        · refine wp_lit1 (d := some 22) (e := 5) 0 0 rfl rfl (by go_simp) ?_
          intro g5x181 w5x180 h5x184 r5x182 k5x183
          have G5x185 := Lib.hid (grown_trans' G0.out k5x183)
          have R5x186 := Lib.hid r5x182
          have hb := below_of_none G5x185.out
          refine hK.out _ _ hb (fun hS5x187 => ?_)
          clear hb hK K
          try simp only [Act.put, List.setIfInBounds_toArray, List.set_cons_zero, List.set_cons_succ]
          clear r5x182 k5x183 h5x184
          refine heldb_two (i := 2) (j := 6) (by kernel_rfl) rfl rfl rfl rfl (fun K hK => ?_) (fun K hK => ?_)
          · refine wp_convG (d := some 21) byteT Tryd.underlying9 rfl (.tmp 20) rfl s1 HSS1.out rfl ?_
            intro v5x189 w5x188 o5x190 g5x191 h5x192
            rw [HS1.out] at o5x190
            have G5x193 := Lib.hid (grown_trans' G5x185.out g5x191)
            have R5x194 := Lib.hid (R5x186.out.row_ g5x191)
            have O5x195 := Lib.hid (o5x190.base_ G5x185.out.size)
            have hb := below_of_none G5x193.out
            refine hK.out _ _ hb (fun hS5x196 => ?_)
            clear hb hK K
            try simp only [Act.put, List.setIfInBounds_toArray, List.set_cons_zero, List.set_cons_succ]
            clear o5x190 g5x191 h5x192
            refine heldb_two (i := 4) (j := 6) (by kernel_rfl) rfl rfl rfl rfl (fun K hK => ?_) (fun K hK => ?_)
            · refine wp_appG (d := some 23) byteT rfl (.tmp 21) (.tmp 22) rfl O5x195.out (R5x194.out) rfl rfl (by have := HLB1.out; simp; omega) G5x193.out.size ?_
              intro v5x198 w5x197 o5x199 g5x200 h5x201
              rw [HL.out] at o5x199
              have G5x202 := Lib.hid (grownR G5x193.out g5x200 (fun x hx => (O5x195.out.lt_ x hx).1))
              have O5x204 := Lib.hid o5x199
              have hb := below_of_none G5x202.out
              refine hK.out _ _ hb (fun hS5x205 => ?_)
              clear hb hK K
              try simp only [Act.put, List.setIfInBounds_toArray, List.set_cons_zero, List.set_cons_succ]
              clear o5x199 g5x200 h5x201
              refine heldb_two (i := 5) (j := 6) (by kernel_rfl) rfl rfl rfl rfl (fun K hK => ?_) (fun K hK => ?_)
              · obtain ⟨A5x206, c5x207, rfl, r5x208, -⟩ := O5x204.out.shape
                rw [HLN.out]
                go_simp
                refine (macSum_any 16 16 na1 c5x207 _ A5x206 key L _ (HT.out.grown (grown_trans' GW.out G5x202.out) (fun e => by cases e)) HK.out (by omega) (RB.of_CB (HB.out.kept G5x202.out) (by rw [HK.out]; unfold maxLen; omega) HK.out) HLN.out (by have := HNB.out; omega) r5x208).mono ?_
                rintro e w5x209 ⟨rfl, g5x210⟩
                rw [← HH.out]
                have G5x211 := Lib.hid (grown_trans' G5x202.out g5x210)
                have hb := below_of_none G5x211.out
                refine hK.out _ _ hb (fun hS5x212 => ?_)
                clear hb hK K
                try simp only [Act.put, List.setIfInBounds_toArray, List.set_cons_zero, List.set_cons_succ]
                clear g5x210 r5x208
                refine heldb_one (i := 6) rfl (by kernel_rfl) rfl (fun K hK => ?_)
                refine wp_allocC (d := some 7) zeroB32 rfl rfl ?_
                intro g5x214 w5x213 h5x217 c5x215 k5x216
                have G5x218 := Lib.hid (grown_trans' G5x211.out k5x216)
                have C5x219 := Lib.hid c5x215
                have B5x220 := Lib.hid (show wd.heap.size ≤ g5x214 by rw [h5x217]; exact G5x211.out.size)
                have hb := below_of_none G5x218.out
                refine hK.out _ _ hb (fun hS5x221 => ?_)
                clear hb hK K
                try simp only [Act.put, List.setIfInBounds_toArray, List.set_cons_zero, List.set_cons_succ]
                clear c5x215 k5x216 h5x217
                refine heldb_one (i := 7) rfl (by kernel_rfl) rfl (fun K hK => ?_)
                refine wp_storeC (d := none) (off := 0) (p := bcells M) agg32.hi rfl (.tmp 7) (.tmp 24) rfl (.agg (bcells M).toArray) rfl (bcells_one _) C5x219.out (by rw [bcells_length, HHL.out]) (by rw [bcells_length, zeros_length]; omega) rfl rfl ?_
                intro w5x222 c5x223 k5x224
                rw [over_all _ _ (by rw [bcells_length, bcells_length, HHL.out, zeros_length]; exact Nat.le_refl _)] at c5x223
                have G5x225 := Lib.hid (none_new G5x218.out k5x224 B5x220.out)
                have C5x228 := Lib.hid c5x223
                have hb := below_of_none G5x225.out
                refine hK.out _ _ hb (fun hS5x229 => ?_)
                clear hb hK K
                clear c5x223 k5x224
                refine held_end (by kernel_rfl) ?_ _
                go_wp2
                go_meet
                case rel => exact ⟨g5x214, rfl, C5x228.out, HB.out.kept G5x225.out, grown_trans' GW.out G5x225.out⟩
              · refine wp_allocC (d := some 7) zeroB32 rfl rfl ?_
                intro g5x231 w5x230 h5x234 c5x232 k5x233
                have G5x235 := Lib.hid (grown_trans' G5x202.out k5x233)
                have O5x236 := Lib.hid (O5x204.out.kept k5x233)
                have C5x237 := Lib.hid c5x232
                have B5x238 := Lib.hid (show wd.heap.size ≤ g5x231 by rw [h5x234]; exact G5x202.out.size)
                have N5x239 := Lib.hid (show ∀ x, v5x198.ownBlock = some x → x ≠ g5x231 from fun x hx => by have := (O5x204.out.lt_ x hx).2; omega)
                have hb := below_of_none G5x235.out
                refine hK.out _ _ hb (fun hS5x240 => ?_)
                clear hb hK K
                try simp only [Act.put, List.setIfInBounds_toArray, List.set_cons_zero, List.set_cons_succ]
                clear c5x232 k5x233 h5x234
                refine heldb_one (i := 5) rfl (by kernel_rfl) rfl (fun K hK => ?_)
                obtain ⟨A5x241, c5x242, rfl, r5x243, -⟩ := O5x236.out.shape
                rw [HLN.out]
                go_simp
                refine (macSum_any 16 16 na1 c5x242 _ A5x241 key L _ (HT.out.grown (grown_trans' GW.out G5x235.out) (fun e => by cases e)) HK.out (by omega) (RB.of_CB (HB.out.kept G5x235.out) (by rw [HK.out]; unfold maxLen; omega) HK.out) HLN.out (by have := HNB.out; omega) r5x243).mono ?_
                rintro e w5x244 ⟨rfl, g5x245⟩
                rw [← HH.out]
                have G5x246 := Lib.hid (grown_trans' G5x235.out g5x245)
                have C5x247 := Lib.hid (C5x237.out.kept g5x245)
                have hb := below_of_none G5x246.out
                refine hK.out _ _ hb (fun hS5x249 => ?_)
                clear hb hK K
                try simp only [Act.put, List.setIfInBounds_toArray, List.set_cons_zero, List.set_cons_succ]
                clear g5x245 r5x243
                refine heldb_one (i := 7) rfl (by kernel_rfl) rfl (fun K hK => ?_)
                refine wp_storeC (d := none) (off := 0) (p := bcells M) agg32.hi rfl (.tmp 7) (.tmp 24) rfl (.agg (bcells M).toArray) rfl (bcells_one _) C5x247.out (by rw [bcells_length, HHL.out]) (by rw [bcells_length, zeros_length]; omega) rfl rfl ?_
                intro w5x250 c5x251 k5x252
                rw [over_all _ _ (by rw [bcells_length, bcells_length, HHL.out, zeros_length]; exact Nat.le_refl _)] at c5x251
                have G5x253 := Lib.hid (none_new G5x246.out k5x252 B5x238.out)
                have C5x256 := Lib.hid c5x251
                have hb := below_of_none G5x253.out
                refine hK.out _ _ hb (fun hS5x257 => ?_)
                clear hb hK K
                clear c5x251 k5x252
                refine held_end (by kernel_rfl) ?_ _
                go_wp2
                go_meet
                case rel => exact ⟨g5x231, rfl, C5x256.out, HB.out.kept G5x253.out, grown_trans' GW.out G5x253.out⟩
            · refine wp_allocC (d := some 7) zeroB32 rfl rfl ?_
              intro g5x259 w5x258 h5x262 c5x260 k5x261
              have G5x263 := Lib.hid (grown_trans' G5x193.out k5x261)
              have R5x264 := Lib.hid (R5x194.out.row_ k5x261)
              have O5x265 := Lib.hid (O5x195.out.kept k5x261)
              have C5x266 := Lib.hid c5x260
              have B5x267 := Lib.hid (show wd.heap.size ≤ g5x259 by rw [h5x262]; exact G5x193.out.size)
              have N5x268 := Lib.hid (show ∀ x, v5x189.ownBlock = some x → x ≠ g5x259 from fun x hx => by have := (O5x195.out.lt_ x hx).2; omega)
              have hb := below_of_none G5x263.out
              refine hK.out _ _ hb (fun hS5x269 => ?_)
              clear hb hK K
              try simp only [Act.put, List.setIfInBounds_toArray, List.set_cons_zero, List.set_cons_succ]
              clear c5x260 k5x261 h5x262
              refine heldb_one (i := 4) rfl (by kernel_rfl) rfl (fun K hK => ?_)
              refine wp_appG (d := some 23) byteT rfl (.tmp 21) (.tmp 22) rfl O5x265.out (R5x264.out) rfl rfl (by have := HLB1.out; simp; omega) G5x263.out.size ?_
              intro v5x271 w5x270 o5x272 g5x273 h5x274
              rw [HL.out] at o5x272
              have G5x275 := Lib.hid (grownR G5x263.out g5x273 (fun x hx => (O5x265.out.lt_ x hx).1))
              have C5x277 := Lib.hid (C5x266.out.row g5x273 (fun x hx => N5x268.out x hx))
              have O5x280 := Lib.hid o5x272
              have N5x281 := Lib.hid (show ∀ x, v5x271.ownBlock = some x → x ≠ g5x259 from fun x hx => by
                rcases h5x274 with h | h
                · rw [h] at hx; exact N5x268.out x hx
                · rw [h] at hx; injection hx with hx; have := C5x266.out.lt; omega)
              have hb := below_of_none G5x275.out
              refine hK.out _ _ hb (fun hS5x282 => ?_)
              clear hb hK K
              try simp only [Act.put, List.setIfInBounds_toArray, List.set_cons_zero, List.set_cons_succ]
              clear o5x272 g5x273 h5x274
              refine heldb_one (i := 5) rfl (by kernel_rfl) rfl (fun K hK => ?_)
              obtain ⟨A5x283, c5x284, rfl, r5x285, -⟩ := O5x280.out.shape
              rw [HLN.out]
              go_simp
              refine (macSum_any 16 16 na1 c5x284 _ A5x283 key L _ (HT.out.grown (grown_trans' GW.out G5x275.out) (fun e => by cases e)) HK.out (by omega) (RB.of_CB (HB.out.kept G5x275.out) (by rw [HK.out]; unfold maxLen; omega) HK.out) HLN.out (by have := HNB.out; omega) r5x285).mono ?_
              rintro e w5x286 ⟨rfl, g5x287⟩
              rw [← HH.out]
              have G5x288 := Lib.hid (grown_trans' G5x275.out g5x287)
              have C5x289 := Lib.hid (C5x277.out.kept g5x287)
              have hb := below_of_none G5x288.out
              refine hK.out _ _ hb (fun hS5x292 => ?_)
              clear hb hK K
              try simp only [Act.put, List.setIfInBounds_toArray, List.set_cons_zero, List.set_cons_succ]
              clear g5x287 r5x285
              refine heldb_one (i := 7) rfl (by kernel_rfl) rfl (fun K hK => ?_)
              refine wp_storeC (d := none) (off := 0) (p := bcells M) agg32.hi rfl (.tmp 7) (.tmp 24) rfl (.agg (bcells M).toArray) rfl (bcells_one _) C5x289.out (by rw [bcells_length, HHL.out]) (by rw [bcells_length, zeros_length]; omega) rfl rfl ?_
              intro w5x293 c5x294 k5x295
              rw [over_all _ _ (by rw [bcells_length, bcells_length, HHL.out, zeros_length]; exact Nat.le_refl _)] at c5x294
              have G5x296 := Lib.hid (none_new G5x288.out k5x295 B5x267.out)
              have C5x300 := Lib.hid c5x294
              have hb := below_of_none G5x296.out
              refine hK.out _ _ hb (fun hS5x301 => ?_)
              clear hb hK K
              clear c5x294 k5x295
              refine held_end (by kernel_rfl) ?_ _
              go_wp2
              go_meet
              case rel => exact ⟨g5x259, rfl, C5x300.out, HB.out.kept G5x296.out, grown_trans' GW.out G5x296.out⟩
          · refine wp_allocC (d := some 7) zeroB32 rfl rfl ?_
            intro g5x303 w5x302 h5x306 c5x304 k5x305
            have G5x307 := Lib.hid (grown_trans' G5x185.out k5x305)
            have R5x308 := Lib.hid (R5x186.out.row_ k5x305)
            have C5x309 := Lib.hid c5x304
            have B5x310 := Lib.hid (show wd.heap.size ≤ g5x303 by rw [h5x306]; exact G5x185.out.size)
            have hb := below_of_none G5x307.out
            refine hK.out _ _ hb (fun hS5x311 => ?_)
            clear hb hK K
            try simp only [Act.put, List.setIfInBounds_toArray, List.set_cons_zero, List.set_cons_succ]
            clear c5x304 k5x305 h5x306
            refine heldb_one (i := 2) rfl (by kernel_rfl) rfl (fun K hK => ?_)
            refine wp_convG (d := some 21) byteT Tryd.underlying9 rfl (.tmp 20) rfl s1 HSS1.out rfl ?_
            intro v5x313 w5x312 o5x314 g5x315 h5x316
            rw [HS1.out] at o5x314
            have G5x317 := Lib.hid (grown_trans' G5x307.out g5x315)
            have R5x318 := Lib.hid (R5x308.out.row_ g5x315)
            have C5x319 := Lib.hid (C5x309.out.kept g5x315)
            have O5x321 := Lib.hid (o5x314.base_ G5x307.out.size)
            have N5x322 := Lib.hid (show ∀ x, v5x313.ownBlock = some x → x ≠ g5x303 from fun x hx => by rw [h5x316] at hx; injection hx with hx; have := C5x309.out.lt; omega)
            have hb := below_of_none G5x317.out
            refine hK.out _ _ hb (fun hS5x323 => ?_)
            clear hb hK K
            try simp only [Act.put, List.setIfInBounds_toArray, List.set_cons_zero, List.set_cons_succ]
            clear o5x314 g5x315 h5x316
            refine heldb_one (i := 4) rfl (by kernel_rfl) rfl (fun K hK => ?_)
            refine wp_appG (d := some 23) byteT rfl (.tmp 21) (.tmp 22) rfl O5x321.out (R5x318.out) rfl rfl (by have := HLB1.out; simp; omega) G5x317.out.size ?_
            intro v5x325 w5x324 o5x326 g5x327 h5x328
            rw [HL.out] at o5x326
            have G5x329 := Lib.hid (grownR G5x317.out g5x327 (fun x hx => (O5x321.out.lt_ x hx).1))
            have C5x330 := Lib.hid (C5x319.out.row g5x327 (fun x hx => N5x322.out x hx))
            have O5x334 := Lib.hid o5x326
            have N5x335 := Lib.hid (show ∀ x, v5x325.ownBlock = some x → x ≠ g5x303 from fun x hx => by
              rcases h5x328 with h | h
              · rw [h] at hx; exact N5x322.out x hx
              · rw [h] at hx; injection hx with hx; have := C5x319.out.lt; omega)
            have hb := below_of_none G5x329.out
            refine hK.out _ _ hb (fun hS5x336 => ?_)
            clear hb hK K
            try simp only [Act.put, List.setIfInBounds_toArray, List.set_cons_zero, List.set_cons_succ]
            clear o5x326 g5x327 h5x328
            refine heldb_one (i := 5) rfl (by kernel_rfl) rfl (fun K hK => ?_)
            obtain ⟨A5x337, c5x338, rfl, r5x339, -⟩ := O5x334.out.shape
            rw [HLN.out]
            go_simp
            refine (macSum_any 16 16 na1 c5x338 _ A5x337 key L _ (HT.out.grown (grown_trans' GW.out G5x329.out) (fun e => by cases e)) HK.out (by omega) (RB.of_CB (HB.out.kept G5x329.out) (by rw [HK.out]; unfold maxLen; omega) HK.out) HLN.out (by have := HNB.out; omega) r5x339).mono ?_
            rintro e w5x340 ⟨rfl, g5x341⟩
            rw [← HH.out]
            have G5x342 := Lib.hid (grown_trans' G5x329.out g5x341)
            have C5x343 := Lib.hid (C5x330.out.kept g5x341)
            have hb := below_of_none G5x342.out
            refine hK.out _ _ hb (fun hS5x346 => ?_)
            clear hb hK K
            try simp only [Act.put, List.setIfInBounds_toArray, List.set_cons_zero, List.set_cons_succ]
            clear g5x341 r5x339
            refine heldb_one (i := 7) rfl (by kernel_rfl) rfl (fun K hK => ?_)
            refine wp_storeC (d := none) (off := 0) (p := bcells M) agg32.hi rfl (.tmp 7) (.tmp 24) rfl (.agg (bcells M).toArray) rfl (bcells_one _) C5x343.out (by rw [bcells_length, HHL.out]) (by rw [bcells_length, zeros_length]; omega) rfl rfl ?_
            intro w5x347 c5x348 k5x349
            rw [over_all _ _ (by rw [bcells_length, bcells_length, HHL.out, zeros_length]; exact Nat.le_refl _)] at c5x348
            have G5x350 := Lib.hid (none_new G5x342.out k5x349 B5x310.out)
            have C5x354 := Lib.hid c5x348
            have hb := below_of_none G5x350.out
            refine hK.out _ _ hb (fun hS5x355 => ?_)
            clear hb hK K
            clear c5x348 k5x349
            refine held_end (by kernel_rfl) ?_ _
            go_wp2
            go_meet
            case rel => exact ⟨g5x303, rfl, C5x354.out, HB.out.kept G5x350.out, grown_trans' GW.out G5x350.out⟩
        · refine wp_allocC (d := some 7) zeroB32 rfl rfl ?_
          intro g5x357 w5x356 h5x360 c5x358 k5x359
          have G5x361 := Lib.hid (grown_trans' G0.out k5x359)
          have C5x362 := Lib.hid c5x358
          have B5x363 := Lib.hid (show wd.heap.size ≤ g5x357 by rw [h5x360]; exact G0.out.size)
          have hb := below_of_none G5x361.out
          refine hK.out _ _ hb (fun hS5x364 => ?_)
          clear hb hK K
          try simp only [Act.put, List.setIfInBounds_toArray, List.set_cons_zero, List.set_cons_succ]
          clear c5x358 k5x359 h5x360
          refine heldb_two (i := 2) (j := 3) (by kernel_rfl) rfl rfl rfl rfl (fun K hK => ?_) (fun K hK => ?_)
          · refine wp_convG (d := some 21) byteT Tryd.underlying9 rfl (.tmp 20) rfl s1 HSS1.out rfl ?_
            intro v5x366 w5x365 o5x367 g5x368 h5x369
            rw [HS1.out] at o5x367
            have G5x370 := Lib.hid (grown_trans' G5x361.out g5x368)
            have C5x371 := Lib.hid (C5x362.out.kept g5x368)
            have O5x373 := Lib.hid (o5x367.base_ G5x361.out.size)
            have N5x374 := Lib.hid (show ∀ x, v5x366.ownBlock = some x → x ≠ g5x357 from fun x hx => by rw [h5x369] at hx; injection hx with hx; have := C5x362.out.lt; omega)
            have hb := below_of_none G5x370.out
            refine hK.out _ _ hb (fun hS5x375 => ?_)
            clear hb hK K
            try simp only [Act.put, List.setIfInBounds_toArray, List.set_cons_zero, List.set_cons_succ]
            clear o5x367 g5x368 h5x369
            refine heldb_one (i := 3) rfl (by kernel_rfl) rfl (fun K hK => ?_)
            refine wp_lit1 (d := some 22) (e := 5) 0 0 rfl rfl (by go_simp) ?_
            intro g5x377 w5x376 h5x380 r5x378 k5x379
            have G5x381 := Lib.hid (grown_trans' G5x370.out k5x379)
            have C5x382 := Lib.hid (C5x371.out.kept k5x379)
            have O5x384 := Lib.hid (O5x373.out.kept k5x379)
            have R5x386 := Lib.hid r5x378
            have hb := below_of_none G5x381.out
            refine hK.out _ _ hb (fun hS5x387 => ?_)
            clear hb hK K
            try simp only [Act.put, List.setIfInBounds_toArray, List.set_cons_zero, List.set_cons_succ]
            clear r5x378 k5x379 h5x380
            refine heldb_one (i := 4) rfl (by kernel_rfl) rfl (fun K hK => ?_)
            refine wp_appG (d := some 23) byteT rfl (.tmp 21) (.tmp 22) rfl O5x384.out (R5x386.out) rfl rfl (by have := HLB1.out; simp; omega) G5x381.out.size ?_
            intro v5x389 w5x388 o5x390 g5x391 h5x392
            rw [HL.out] at o5x390
            have G5x393 := Lib.hid (grownR G5x381.out g5x391 (fun x hx => (O5x384.out.lt_ x hx).1))
            have C5x394 := Lib.hid (C5x382.out.row g5x391 (fun x hx => N5x374.out x hx))
            have O5x398 := Lib.hid o5x390
            have N5x399 := Lib.hid (show ∀ x, v5x389.ownBlock = some x → x ≠ g5x357 from fun x hx => by
              rcases h5x392 with h | h
              · rw [h] at hx; exact N5x374.out x hx
              · rw [h] at hx; injection hx with hx; have := C5x382.out.lt; omega)
            have hb := below_of_none G5x393.out
            refine hK.out _ _ hb (fun hS5x400 => ?_)
            clear hb hK K
            try simp only [Act.put, List.setIfInBounds_toArray, List.set_cons_zero, List.set_cons_succ]
            clear o5x390 g5x391 h5x392
            refine heldb_one (i := 5) rfl (by kernel_rfl) rfl (fun K hK => ?_)
            obtain ⟨A5x401, c5x402, rfl, r5x403, -⟩ := O5x398.out.shape
            rw [HLN.out]
            go_simp
            refine (macSum_any 16 16 na1 c5x402 _ A5x401 key L _ (HT.out.grown (grown_trans' GW.out G5x393.out) (fun e => by cases e)) HK.out (by omega) (RB.of_CB (HB.out.kept G5x393.out) (by rw [HK.out]; unfold maxLen; omega) HK.out) HLN.out (by have := HNB.out; omega) r5x403).mono ?_
            rintro e w5x404 ⟨rfl, g5x405⟩
            rw [← HH.out]
            have G5x406 := Lib.hid (grown_trans' G5x393.out g5x405)
            have C5x407 := Lib.hid (C5x394.out.kept g5x405)
            have hb := below_of_none G5x406.out
            refine hK.out _ _ hb (fun hS5x410 => ?_)
            clear hb hK K
            try simp only [Act.put, List.setIfInBounds_toArray, List.set_cons_zero, List.set_cons_succ]
            clear g5x405 r5x403
            refine heldb_one (i := 7) rfl (by kernel_rfl) rfl (fun K hK => ?_)
            refine wp_storeC (d := none) (off := 0) (p := bcells M) agg32.hi rfl (.tmp 7) (.tmp 24) rfl (.agg (bcells M).toArray) rfl (bcells_one _) C5x407.out (by rw [bcells_length, HHL.out]) (by rw [bcells_length, zeros_length]; omega) rfl rfl ?_
            intro w5x411 c5x412 k5x413
            rw [over_all _ _ (by rw [bcells_length, bcells_length, HHL.out, zeros_length]; exact Nat.le_refl _)] at c5x412
            have G5x414 := Lib.hid (none_new G5x406.out k5x413 B5x363.out)
            have C5x418 := Lib.hid c5x412
            have hb := below_of_none G5x414.out
            refine hK.out _ _ hb (fun hS5x419 => ?_)
            clear hb hK K
            clear c5x412 k5x413
            refine held_end (by kernel_rfl) ?_ _
            go_wp2
            go_meet
            case rel => exact ⟨g5x357, rfl, C5x418.out, HB.out.kept G5x414.out, grown_trans' GW.out G5x414.out⟩
          · refine wp_lit1 (d := some 22) (e := 5) 0 0 rfl rfl (by go_simp) ?_
            intro g5x421 w5x420 h5x424 r5x422 k5x423
            have G5x425 := Lib.hid (grown_trans' G5x361.out k5x423)
            have C5x426 := Lib.hid (C5x362.out.kept k5x423)
            have R5x428 := Lib.hid r5x422
            have hb := below_of_none G5x425.out
            refine hK.out _ _ hb (fun hS5x429 => ?_)
            clear hb hK K
            try simp only [Act.put, List.setIfInBounds_toArray, List.set_cons_zero, List.set_cons_succ]
            clear r5x422 k5x423 h5x424
            refine heldb_one (i := 2) rfl (by kernel_rfl) rfl (fun K hK => ?_)
            refine wp_convG (d := some 21) byteT Tryd.underlying9 rfl (.tmp 20) rfl s1 HSS1.out rfl ?_
            intro v5x431 w5x430 o5x432 g5x433 h5x434
            rw [HS1.out] at o5x432
            have G5x435 := Lib.hid (grown_trans' G5x425.out g5x433)
            have C5x436 := Lib.hid (C5x426.out.kept g5x433)
            have R5x438 := Lib.hid (R5x428.out.row_ g5x433)
            have O5x439 := Lib.hid (o5x432.base_ G5x425.out.size)
            have N5x440 := Lib.hid (show ∀ x, v5x431.ownBlock = some x → x ≠ g5x357 from fun x hx => by rw [h5x434] at hx; injection hx with hx; have := C5x426.out.lt; omega)
            have hb := below_of_none G5x435.out
            refine hK.out _ _ hb (fun hS5x441 => ?_)
            clear hb hK K
            try simp only [Act.put, List.setIfInBounds_toArray, List.set_cons_zero, List.set_cons_succ]
            clear o5x432 g5x433 h5x434
            refine heldb_one (i := 4) rfl (by kernel_rfl) rfl (fun K hK => ?_)
            refine wp_appG (d := some 23) byteT rfl (.tmp 21) (.tmp 22) rfl O5x439.out (R5x438.out) rfl rfl (by have := HLB1.out; simp; omega) G5x435.out.size ?_
            intro v5x443 w5x442 o5x444 g5x445 h5x446
            rw [HL.out] at o5x444
            have G5x447 := Lib.hid (grownR G5x435.out g5x445 (fun x hx => (O5x439.out.lt_ x hx).1))
            have C5x448 := Lib.hid (C5x436.out.row g5x445 (fun x hx => N5x440.out x hx))
            have O5x452 := Lib.hid o5x444
            have N5x453 := Lib.hid (show ∀ x, v5x443.ownBlock = some x → x ≠ g5x357 from fun x hx => by
              rcases h5x446 with h | h
              · rw [h] at hx; exact N5x440.out x hx
              · rw [h] at hx; injection hx with hx; have := C5x436.out.lt; omega)
            have hb := below_of_none G5x447.out
            refine hK.out _ _ hb (fun hS5x454 => ?_)
            clear hb hK K
            try simp only [Act.put, List.setIfInBounds_toArray, List.set_cons_zero, List.set_cons_succ]
            clear o5x444 g5x445 h5x446
            refine heldb_one (i := 5) rfl (by kernel_rfl) rfl (fun K hK => ?_)
            obtain ⟨A5x455, c5x456, rfl, r5x457, -⟩ := O5x452.out.shape
            rw [HLN.out]
            go_simp
            refine (macSum_any 16 16 na1 c5x456 _ A5x455 key L _ (HT.out.grown (grown_trans' GW.out G5x447.out) (fun e => by cases e)) HK.out (by omega) (RB.of_CB (HB.out.kept G5x447.out) (by rw [HK.out]; unfold maxLen; omega) HK.out) HLN.out (by have := HNB.out; omega) r5x457).mono ?_
            rintro e w5x458 ⟨rfl, g5x459⟩
            rw [← HH.out]
            have G5x460 := Lib.hid (grown_trans' G5x447.out g5x459)
            have C5x461 := Lib.hid (C5x448.out.kept g5x459)
            have hb := below_of_none G5x460.out
            refine hK.out _ _ hb (fun hS5x464 => ?_)
            clear hb hK K
            try simp only [Act.put, List.setIfInBounds_toArray, List.set_cons_zero, List.set_cons_succ]
            clear g5x459 r5x457
            refine heldb_one (i := 7) rfl (by kernel_rfl) rfl (fun K hK => ?_)
            refine wp_storeC (d := none) (off := 0) (p := bcells M) agg32.hi rfl (.tmp 7) (.tmp 24) rfl (.agg (bcells M).toArray) rfl (bcells_one _) C5x461.out (by rw [bcells_length, HHL.out]) (by rw [bcells_length, zeros_length]; omega) rfl rfl ?_
            intro w5x465 c5x466 k5x467
            rw [over_all _ _ (by rw [bcells_length, bcells_length, HHL.out, zeros_length]; exact Nat.le_refl _)] at c5x466
            have G5x468 := Lib.hid (none_new G5x460.out k5x467 B5x363.out)
            have C5x472 := Lib.hid c5x466
            have hb := below_of_none G5x468.out
            refine hK.out _ _ hb (fun hS5x473 => ?_)
            clear hb hK K
            clear c5x466 k5x467
            refine held_end (by kernel_rfl) ?_ _
            go_wp2
            go_meet
            case rel => exact ⟨g5x357, rfl, C5x472.out, HB.out.kept G5x468.out, grown_trans' GW.out G5x468.out⟩

      case rest =>
        obtain ⟨g7, rfl, c7, hkb, g7r⟩ := hcut
        have HC := Lib.hid c7
        have HBC := Lib.hid hkb
        have GC := Lib.hid g7r
        clear c7 hkb g7r
        go_wp2_with (first
          | refine wpList_loadC (off := 0) (p := bcells key) agg16 rfl (.tmp 3) rfl HBC.out (by rw [List.drop_zero]; exact List.take_of_length_le (by rw [bcells_length, HK.out]; exact Nat.le_refl _)) (by rw [bcells_length, HK.out]; omega) rfl ?_
          | (go_at_call 12; refine (derive_any key s1 a1 0 _ (HT.out.grown GC.out (fun e => by cases e)) HK.out HS1.out (by have := HLB1.out; omega) (by omega)).mono ?_; rintro e w2 ⟨rfl, g2⟩; rw [← HDD.out]; have C2 := Lib.hid ((HC.out.kept g2).alloc (.cells (bcells (zeros 16)).toArray 29)); have B2 := Lib.hid ((HBC.out.kept g2).alloc (.cells (bcells (zeros 16)).toArray 29)); have G2 := Lib.hid (grown_trans' (grown_trans' GC.out g2) (grown_alloc w2 (.cells (bcells (zeros 16)).toArray 29) none)); have N2 := Lib.hid (show g7 < w2.heap.size from Nat.lt_of_lt_of_le HC.out.lt g2.size); have M2 := Lib.hid (show w.heap.size < w2.heap.size from Nat.lt_of_lt_of_le HBC.out.lt g2.size); have S2 := Lib.hid (Nat.le_trans GC.out.size g2.size); clear g2)
          | refine wpList_allocC zeroB16 rfl rfl ?_
          | (refine wpList_storeC (off := 0) (p := bcells D) agg16.hi rfl (.tmp 8) (.tmp 27) rfl (.agg (bcells D).toArray) rfl (bcells_one _) (CB.new w2 29 (bcells (zeros 16))) (by rw [bcells_length, HDL.out]) (by rw [bcells_length, zeros_length]; omega) (by go_simp) rfl ?_; intro w3 h3 g3; rw [over_all _ _ (by rw [bcells_length, bcells_length, HDL.out, zeros_length]; exact Nat.le_refl _)] at h3; have D3 := Lib.hid h3; have C3 := Lib.hid (C2.out.grown g3 (Nat.ne_of_lt N2.out)); have B3 := Lib.hid (B2.out.grown g3 (Nat.ne_of_lt M2.out)); have G3 := Lib.hid (none_new G2.out g3 S2.out); clear h3 g3))
        have q1 := fun wx (h : Below w3.drew.heap.size w3.drew wx) => str_from byteT Tryd.underlying9 (RB.of_CB D3.out.drew (by rw [HDL.out]; unfold maxLen; omega) HDL.out) (Nat.le_refl _) wx h
        have q2 := fun wx (h : Below w3.drew.heap.size w3.drew wx) => str_from byteT Tryd.underlying9 ((RB.of_CB C3.out.drew (by rw [HHL.out]; unfold maxLen; omega) HHL.out).head 16) (Nat.le_refl _) wx h
        rw [HDL.out] at q1
        rw [HMD.out, HDL.out] at q2
        refine heldb_begin w3.drew.heap.size (by kernel_rfl) (fun hS1 => ?_)
        refine heldb_take (i := 0) (d := some 28) (v := ?vq7x1) (by assumption) rfl rfl (by kernel_rfl) (fun _ _ _ h => h) ?yq7x1 ?_; case yq7x1 => (refine Or.inl ⟨rfl, fun wx hS => ?_⟩; go_simp; try with_reducible rfl)
        try simp only [Act.put, List.setIfInBounds_toArray, List.set_cons_zero, List.set_cons_succ]
        refine heldb_take (i := 1) (d := some 29) (v := _) (by assumption) rfl rfl (by kernel_rfl) (fun _ _ _ h => h) (yields_conv (.tmp 28) rfl rfl rfl q1) ?_
        try simp only [Act.put, List.setIfInBounds_toArray, List.set_cons_zero, List.set_cons_succ]
        refine heldb_take (i := 2) (d := some 30) (v := ?vq7x3) (by assumption) rfl rfl (by kernel_rfl) (fun _ _ _ h => h) ?yq7x3 ?_; case yq7x3 => (refine Or.inl ⟨rfl, fun wx hS => ?_⟩; go_simp; try with_reducible rfl)
        try simp only [Act.put, List.setIfInBounds_toArray, List.set_cons_zero, List.set_cons_succ]
        refine heldb_take (i := 3) (d := some 31) (v := _) (by assumption) rfl rfl (by kernel_rfl) (fun _ _ _ h => h) (yields_conv (.tmp 30) rfl rfl rfl q2) ?_
        try simp only [Act.put, List.setIfInBounds_toArray, List.set_cons_zero, List.set_cons_succ]
        refine heldb_take (i := 4) (d := some 32) (v := ?vq7x5) (by assumption) rfl rfl (by kernel_rfl) (fun _ _ _ h => h) ?yq7x5 ?_; case yq7x5 => (refine Or.inl ⟨rfl, fun wx hS => ?_⟩; go_simp; try with_reducible rfl)
        try simp only [Act.put, List.setIfInBounds_toArray, List.set_cons_zero, List.set_cons_succ]
        refine held_end (by kernel_rfl) ?_ _
        go_wp2

        have GD := Lib.hid (grown_drew (grown_drew G3.out))
        have HBF := Lib.hid B3.out.drew.drew
        have HCF := Lib.hid D3.out.drew.drew
        clear q1 q2 hS1
        by_cases he : s1 = s2
        · subst he
          refine heldb_begin w3.drew.drew.heap.size (by kernel_rfl) (fun hS1 => ?_)
          have GF := Lib.hid (World.grownBy.refl w3.drew.drew none)
          generalize hwf : w3.drew.drew = wf at *
          refine heldb_take (i := 0) (d := some 33) (v := ?vqa9x1) (by assumption) rfl rfl (by kernel_rfl) (fun _ _ _ h => h) ?yqa9x1 ?_; case yqa9x1 => (refine Or.inl ⟨rfl, fun wx hS => ?_⟩; go_simp; try with_reducible rfl)
          try simp only [Act.put, List.setIfInBounds_toArray, List.set_cons_zero, List.set_cons_succ]
          refine heldb_take (i := 1) (d := some 34) (v := ?vqa9x2) (by assumption) rfl rfl (by kernel_rfl) (fun _ _ _ h => h) ?yqa9x2 ?_; case yqa9x2 => (refine Or.inl ⟨rfl, fun wx hS => ?_⟩; go_simp; try with_reducible rfl)
          try simp only [Act.put, List.setIfInBounds_toArray, List.set_cons_zero, List.set_cons_succ]
          refine heldb_take (i := 2) (d := some 35) (v := ?vqa9x3) (by assumption) rfl rfl (by kernel_rfl) (fun _ _ _ h => h) ?yqa9x3 ?_; case yqa9x3 => (refine Or.inl ⟨rfl, fun wx hS => ?_⟩; go_simp; try with_reducible rfl)
          try simp only [Act.put, List.setIfInBounds_toArray, List.set_cons_zero, List.set_cons_succ]
          refine heldb_take (i := 3) (d := some 36) (v := ?vqa9x4) (by assumption) rfl rfl (by kernel_rfl) (fun _ _ _ h => h) ?yqa9x4 ?_; case yqa9x4 => (refine Or.inl ⟨rfl, fun wx hS => ?_⟩; go_simp; try with_reducible rfl)
          try simp only [Act.put, List.setIfInBounds_toArray, List.set_cons_zero, List.set_cons_succ]
          refine heldb_take (i := 4) (d := some 37) (v := _) (by assumption) rfl rfl (by kernel_rfl) (fun _ _ _ h => h) (yields_loadC (p := bcells key) (off := 0) agg16 (.tmp 3) rfl rfl (fun wx hx => HBF.out.below hx HBF.out.lt) (by rw [List.drop_zero]; exact List.take_of_length_le (by rw [bcells_length, HK.out]; exact Nat.le_refl _)) (by rw [bcells_length, HK.out]; omega) rfl) ?_
          try simp only [Act.put, List.setIfInBounds_toArray, List.set_cons_zero, List.set_cons_succ]
          first | refine heldb_skip (i := 5) (d := some 38) (by assumption) rfl rfl (by kernel_rfl) (fun _ _ _ h => h) rfl ?_ | (refine heldb_take (i := 5) (d := some 38) (v := ?vqa9x6) (by assumption) rfl rfl (by kernel_rfl) (fun _ _ _ h => h) ?yqa9x6 ?_; case yqa9x6 => (refine Or.inl ⟨rfl, fun wx hS => ?_⟩; go_simp; try with_reducible rfl))
          try simp only [Act.put, List.setIfInBounds_toArray, List.set_cons_zero, List.set_cons_succ]
          refine heldb_take (i := 7) (d := some 40) (v := _) (by assumption) rfl rfl (by kernel_rfl) (fun _ _ _ h => h) (yields_loadC (p := bcells D) (off := 0) agg16 (.tmp 8) rfl rfl (fun wx hx => HCF.out.below hx HCF.out.lt) (by rw [List.drop_zero]; exact List.take_of_length_le (by rw [bcells_length, HDL.out]; exact Nat.le_refl _)) (by rw [bcells_length, HDL.out]; omega) rfl) ?_
          try simp only [Act.put, List.setIfInBounds_toArray, List.set_cons_zero, List.set_cons_succ]
          refine heldb_one (i := 6) rfl (by kernel_rfl) rfl (fun K hK => ?_)
          go_simp
          refine (derive_any key s1 a1 0 _ (HT.out.grown (grown_trans' GD.out GF.out) (fun e => by cases e)) HK.out HS1.out (by have := HLB1.out; omega) (by omega)).mono ?_
          rintro e wa9x8 ⟨rfl, ga9x9⟩
          rw [← HDD.out]
          have Ga9x10 := Lib.hid (grown_trans' GF.out ga9x9)
          have hb := below_of_none Ga9x10.out
          refine hK.out _ _ hb (fun hSa9x11 => ?_)
          clear hb hK K
          try simp only [Act.put, List.setIfInBounds_toArray, List.set_cons_zero, List.set_cons_succ]
          clear ga9x9
          refine heldb_take (i := 8) (d := some 41) (v := _) (by assumption) rfl rfl (by kernel_rfl) (fun _ _ _ h => h) (yields_eqB (by kernel_rfl) (.tmp 39) (.tmp 40) rfl rfl rfl rfl HEQ.out) ?_
          try simp only [Act.put, List.setIfInBounds_toArray, List.set_cons_zero, List.set_cons_succ]
          refine heldb_take (i := 9) (d := some 42) (v := ?vqa9x13) (by assumption) rfl rfl (by kernel_rfl) (fun _ _ _ h => h) ?yqa9x13 ?_; case yqa9x13 => (refine Or.inl ⟨rfl, fun wx hS => ?_⟩; go_simp; try with_reducible rfl)
          try simp only [Act.put, List.setIfInBounds_toArray, List.set_cons_zero, List.set_cons_succ]
          refine heldb_take (i := 10) (d := some 6) (v := ?vqa9x14) (by assumption) rfl rfl (by kernel_rfl) (fun _ _ _ h => h) ?yqa9x14 ?_; case yqa9x14 => (refine Or.inl ⟨rfl, fun wx hS => ?_⟩; go_simp; try with_reducible rfl)
          try simp only [Act.put, List.setIfInBounds_toArray, List.set_cons_zero, List.set_cons_succ]
          refine held_end (by kernel_rfl) ?_ _
          go_wp2
          go_ret
          exact ⟨rfl, below_of_none (grown_trans' GD.out Ga9x10.out)⟩
        · have hne : (s1.toList == s2.toList) = false := by
            rw [beq_eq_false_iff_ne, ByteArray.toList_eq, ByteArray.toList_eq]
            intro h
            exact he (ByteArray.ext (Array.ext' h))
          refine heldb_begin w3.drew.drew.heap.size (by kernel_rfl) (fun hS1 => ?_)
          have GF := Lib.hid (World.grownBy.refl w3.drew.drew none)
          generalize hwf : w3.drew.drew = wf at *
          refine heldb_take (i := 0) (d := some 33) (v := ?vqb9x1) (by assumption) rfl rfl (by kernel_rfl) (fun _ _ _ h => h) ?yqb9x1 ?_; case yqb9x1 => (refine Or.inl ⟨rfl, fun wx hS => ?_⟩; go_simp; try with_reducible rfl)
          try simp only [Act.put, List.setIfInBounds_toArray, List.set_cons_zero, List.set_cons_succ]
          refine heldb_take (i := 1) (d := some 34) (v := ?vqb9x2) (by assumption) rfl rfl (by kernel_rfl) (fun _ _ _ h => h) ?yqb9x2 ?_; case yqb9x2 => (refine Or.inl ⟨rfl, fun wx hS => ?_⟩; go_simp; try with_reducible rfl)
          try simp only [Act.put, List.setIfInBounds_toArray, List.set_cons_zero, List.set_cons_succ]
          refine heldb_take (i := 2) (d := some 35) (v := ?vqb9x3) (by assumption) rfl rfl (by kernel_rfl) (fun _ _ _ h => h) ?yqb9x3 ?_; case yqb9x3 => (refine Or.inl ⟨rfl, fun wx hS => ?_⟩; go_simp; try with_reducible rfl)
          try simp only [Act.put, List.setIfInBounds_toArray, List.set_cons_zero, List.set_cons_succ]
          refine heldb_take (i := 3) (d := some 36) (v := ?vqb9x4) (by assumption) rfl rfl (by kernel_rfl) (fun _ _ _ h => h) ?yqb9x4 ?_; case yqb9x4 => (refine Or.inl ⟨rfl, fun wx hS => ?_⟩; go_simp; try with_reducible rfl)
          try simp only [Act.put, List.setIfInBounds_toArray, List.set_cons_zero, List.set_cons_succ]
          refine heldb_skip (i := 4) (d := some 37) (by assumption) rfl rfl (by kernel_rfl) (fun _ _ _ h => h) rfl ?_
          try simp only [Act.put, List.setIfInBounds_toArray, List.set_cons_zero, List.set_cons_succ]
          refine heldb_skip (i := 5) (d := some 38) (by assumption) rfl rfl (by kernel_rfl) (fun _ _ _ h => h) rfl ?_
          try simp only [Act.put, List.setIfInBounds_toArray, List.set_cons_zero, List.set_cons_succ]
          refine heldb_skip (i := 6) (d := some 39) (by assumption) rfl rfl (by kernel_rfl) (fun _ _ _ h => h) rfl ?_
          try simp only [Act.put, List.setIfInBounds_toArray, List.set_cons_zero, List.set_cons_succ]
          refine heldb_skip (i := 7) (d := some 40) (by assumption) rfl rfl (by kernel_rfl) (fun _ _ _ h => h) rfl ?_
          try simp only [Act.put, List.setIfInBounds_toArray, List.set_cons_zero, List.set_cons_succ]
          refine heldb_skip (i := 8) (d := some 41) (by assumption) rfl rfl (by kernel_rfl) (fun _ _ _ h => h) rfl ?_
          try simp only [Act.put, List.setIfInBounds_toArray, List.set_cons_zero, List.set_cons_succ]
          refine heldb_take (i := 9) (d := some 42) (v := ?vqb9x5) (by assumption) rfl rfl (by kernel_rfl) (fun _ _ _ h => h) ?yqb9x5 ?_; case yqb9x5 => (refine Or.inl ⟨rfl, fun wx hS => ?_⟩; go_simp; try with_reducible rfl)
          try simp only [Act.put, List.setIfInBounds_toArray, List.set_cons_zero, List.set_cons_succ]
          refine heldb_take (i := 10) (d := some 6) (v := ?vqb9x6) (by assumption) rfl rfl (by kernel_rfl) (fun _ _ _ h => h) ?yqb9x6 ?_; case yqb9x6 => (refine Or.inl ⟨rfl, fun wx hS => ?_⟩; go_simp; try with_reducible rfl)
          try simp only [Act.put, List.setIfInBounds_toArray, List.set_cons_zero, List.set_cons_succ]
          refine held_end (by kernel_rfl) ?_ _
          go_wp2
          go_ret
          exact ⟨rfl, below_of_none GD.out⟩

end Go.Proofs.YtbpkaaajcimcgaaDoor
