/- The walk of the document's Read. -/
import Derived.Test.YtcfhpoigfkljpaaTmd
namespace Go.Proofs.Ytcfhpoigfkljpaa
open Go.ChangeShapes Go.WideShapes Go.RowKit
set_option linter.unusedVariables false

/-- What the rounds keep. -/
def RdI (b : List UInt8) (a : Nat) (acc : List (Tl × Nat)) : Prop := run ts0 0 b = (acc ++ (run ts0 a (b.drop a)).1, (run ts0 a (b.drop a)).2)
theorem RdI.fin {b : List UInt8} {a : Nat} {acc : List (Tl × Nat)} {s : Ts} (h : RdI b a acc) (hs : run ts0 a (b.drop a) = ([], s)) : (run ts0 0 b).1 = acc ∧ (endT ts0 b).err = s.err := by
  have h1 := run_end ts0 0 b
  rw [h, hs] at h1
  rw [h, hs, ← h1]
  exact ⟨List.append_nil _, rfl⟩
theorem RdI.quiet {b : List UInt8} {a k : Nat} {acc : List (Tl × Nat)} (h : RdI b a acc) (hs : run ts0 a (b.drop a) = run ts0 (a + k) (b.drop (a + k))) : RdI b (a + k) acc := by
  unfold RdI
  rw [h, hs]
theorem RdI.gives {b : List UInt8} {a k : Nat} {acc : List (Tl × Nat)} {p : Tl} (h : RdI b a acc) (hs : run ts0 a (b.drop a) = ((p, a + k) :: (run ts0 (a + k) (b.drop (a + k))).1, (run ts0 (a + k) (b.drop (a + k))).2)) : RdI b (a + k) (acc ++ [(p, a + k)]) := by
  unfold RdI
  rw [h, hs, List.append_assoc]
  rfl
theorem st_data {c : UInt8} (h : c.toNat ≠ 255) : step ts0 c = (ts0, some ⟨1, 0, 0, [c]⟩) := by simp [step, ts0, h]
theorem st_iac {c : UInt8} (h : c.toNat = 255) : step ts0 c = (⟨1, tl0, 0⟩, none) := by simp [step, ts0, h]
theorem st1_bad {c : UInt8} (h : c.toNat ≤ 240) : step ⟨1, tl0, 0⟩ c = (⟨0, tl0, 21⟩, none) := by
  unfold step
  simp only [Nat.one_ne_zero, if_false, if_true]
  rw [if_neg (by omega), if_neg (by omega), if_neg (by omega), if_pos h]
theorem st1_255 {c : UInt8} (h : c.toNat = 255) : step ⟨1, tl0, 0⟩ c = (ts0, some ⟨1, 0, 0, [c]⟩) := by
  unfold step
  simp only [Nat.one_ne_zero, if_false, if_true]
  rw [if_pos h]
  rfl
theorem st1_verb {c : UInt8} (h : 250 < c.toNat) (h2 : c.toNat ≠ 255) : step ⟨1, tl0, 0⟩ c = (⟨2, ⟨2, (c.toNat : Int), 0, []⟩, 0⟩, none) := by
  unfold step
  simp only [Nat.one_ne_zero, if_false, if_true]
  rw [if_neg h2, if_pos (by omega)]
theorem st1_sb {c : UInt8} (h : c.toNat = 250) : step ⟨1, tl0, 0⟩ c = (⟨3, ⟨3, 0, 0, []⟩, 0⟩, none) := by
  unfold step
  simp only [Nat.one_ne_zero, if_false, if_true]
  rw [if_neg (by omega), if_neg (by omega), if_pos h]
theorem st1_pass {c : UInt8} (h : 240 < c.toNat) (h2 : c.toNat < 250) : step ⟨1, tl0, 0⟩ c = (ts0, none) := by
  unfold step
  simp only [Nat.one_ne_zero, if_false, if_true]
  rw [if_neg (by omega), if_neg (by omega), if_neg (by omega), if_neg (by omega)]
  rfl
/-- What Read comes to. -/
def RdR (w w' : World) (b : List UInt8) (e : Ending) : Prop := ∃ (v : Value) (us : List Value), e = .returned (.tuple #[v, .int .i64 (endT ts0 b).err]) ∧ OwnQ w' w.heap.size w.heap.size us v (run ts0 0 b).1 ∧ w.grownBy w' none
theorem bc1 {x : Int} (a : UInt8) (hx : x = (a.toNat : Int)) : #[Value.int .u8 x] = (bcells [a]).toArray := by
  subst hx
  rfl
theorem u8w {x : Int} {c : UInt8} (h : (c.toNat : Int) = x) : IntKind.i64.wrap x = x := by have := c.toNat_lt; simp [IntKind.wrap, IntKind.bits, IntKind.signed]; omega

set_option maxRecDepth 20000 in
set_option maxHeartbeats 16000000 in
theorem read_any {w : World} (A : Option Addr) (b : List UInt8) (n cap : Nat) (hn : b.length = n) (hr : RB w w.heap.size A b cap) (hnl : n ≤ 1000000) :
    Calls Try.prog 14 #[.slice A n cap] w fun e w' => RdR w w' b e := by
  have HR := Lib.hid hr
  have HN := Lib.hid hn
  have HNL := Lib.hid hnl
  have hni : (n : Int) ≤ 1000000 := by omega
  clear hr hn
  go_enter Try.func14, Try.ntmps14
  go_wp2
  have S0 := Lib.hid (show OwnQ (w.alloc (.cells #[] 63)) w.heap.size w.heap.size [] (.slice (some ⟨w.heap.size, 0, none⟩) 0 0) [] from OwnQ.new0 _ _ _ (Nat.le_refl _))
  go_loopw [4, 5, 6] (fun s4 s5 _ wr => ∃ (a : Nat) (us : List Value) (acc : List (Tl × Nat)), s5 = .int .i64 a ∧ a ≤ n ∧ RdI b a acc ∧ acc.length ≤ a ∧ OwnQ wr w.heap.size w.heap.size us s4 acc ∧ w.grownBy wr none) (fun _ s5 _ _ => n - (intOf s5).toNat)
  case atStart => exact ⟨0, [], [], rfl, Nat.zero_le _, rfl, Nat.le_refl _, S0.out, grown_alloc _ _ _⟩
  case round =>
    obtain ⟨a, us, acc, rfl, ha, hI, hal, ho, hg⟩ := hrel
    obtain ⟨AV, ac, rfl, -⟩ := ho.shape
    obtain ⟨an, han⟩ : ∃ x, acc.length = x := ⟨_, rfl⟩
    have HAN := Lib.hid han
    rw [han] at ho
    have HI := Lib.hid hI
    have HAL := Lib.hid (show acc.length ≤ 1000000 by omega)
    have HAA := Lib.hid hal
    have OQ0 := Lib.hid ho
    have GG := Lib.hid hg
    rw [han]
    clear hI hal ho hg han
    by_cases han : a < n
    · have hai : (a : Int) < (n : Int) := by omega
      have hab : a < b.length := by rw [HN.out]; exact han
      obtain ⟨ba, off, rfl, hbb, hcell⟩ := HR.out.open_ (by omega)
      obtain ⟨c0, hc0⟩ : ∃ c, c = b[a] := ⟨_, rfl⟩
      have q0 := ((below_of_none GG.out).cell (p := ⟨ba, off + a, none⟩) hbb).trans (hcell a hab)
      have d0 := drop_at hab
      rw [← hc0] at q0 d0
      obtain ⟨x0, hx0⟩ : ∃ x, (c0.toNat : Int) = x := ⟨_, rfl⟩
      have HX0 := Lib.hid hx0
      rw [hx0] at q0
      have hw1 : IntKind.i64.wrap ((a : Int) + 1) = (a : Int) + 1 := by simp [IntKind.wrap, IntKind.bits, IntKind.signed]; omega
      have hw2 : IntKind.i64.wrap ((a : Int) + 2) = (a : Int) + 2 := by simp [IntKind.wrap, IntKind.bits, IntKind.signed]; omega
      have hw3 : IntKind.i64.wrap ((a : Int) + 3) = (a : Int) + 3 := by simp [IntKind.wrap, IntKind.bits, IntKind.signed]; omega
      by_cases h255 : c0.toNat = 255
      · have e255 : (x0 == 255) = true := by rw [beq_iff_eq]; omega
        have r0 : run ts0 a (b.drop a) = run ⟨1, tl0, 0⟩ (a + 1) (b.drop (a + 1)) := by rw [d0, run_quiet rfl (st_iac h255)]
        by_cases h1 : a + 1 < n
        · have h1b : a + 1 < b.length := by rw [HN.out]; exact h1
          obtain ⟨c1, hc1⟩ : ∃ c, c = b[a + 1] := ⟨_, rfl⟩
          have q1 := ((below_of_none GG.out).cell (p := ⟨ba, off + (a + 1), none⟩) hbb).trans (hcell (a + 1) h1b)
          have d1 := drop_at h1b
          rw [← hc1] at q1 d1
          obtain ⟨x1, hx1⟩ : ∃ x, (c1.toNat : Int) = x := ⟨_, rfl⟩
          have HX1 := Lib.hid hx1
          rw [hx1] at q1
          have g1 : ¬ (n : Int) ≤ (a : Int) + 1 := by omega
          have g1l : (a : Int) + 1 < (n : Int) := by omega
          have g10 : (0 : Int) ≤ (a : Int) + 1 := by omega
          have t1 : ((a : Int) + 1).toNat = a + 1 := by omega
          rw [d1] at r0
          by_cases hb240 : c1.toNat ≤ 240
          · have e240 : x1 ≤ 240 := by omega
            have HF := Lib.hid (HI.out.fin (s := ⟨0, tl0, 21⟩) (by rw [r0, run_quiet rfl (st1_bad hb240), run_stop (by decide)]))
            clear r0 d0 d1 hcell hc0 hc1 hx0 hx1
            go_wp2
            go_ret2
            exact ⟨_, us, by rw [HF.out.2]; rfl, by rw [HF.out.1]; exact OQ0.out, GG.out⟩
          have e240 : ¬ x1 ≤ 240 := by omega
          by_cases hb255 : c1.toNat = 255
          · have e5 : (x1 == 255) = true := by rw [beq_iff_eq]; omega
            have HT := Lib.hid (HI.out.gives (k := 2) (p := ⟨1, 0, 0, [c1]⟩) (by rw [r0, run_gives rfl (st1_255 hb255)]))
            have HC := Lib.hid (show x1 = 255 by omega)
            clear r0 d0 d1 hcell hc0 hc1 hx0 hx1
            go_wp2_with (first
              | (at_builtin
                 obtain ⟨wa, hwa⟩ : ∃ wa, wa = (wr.alloc (.cells #[.int .u8 255] 5)).alloc (.cells #[.int .i64 1, .int .i64 0, .int .i64 0, .slice (some ⟨wr.heap.size, 0, none⟩) 1 1, .int .i64 ((a : Int) + 2)] 63) := ⟨_, rfl⟩
                 obtain ⟨gz, hgz⟩ : ∃ gz, (wr.alloc (.cells #[.int .u8 255] 5)).heap.size = gz := ⟨_, rfl⟩
                 have GA := Lib.hid (show (wr.alloc (.cells #[.int .u8 255] 5)).grownBy wa none by rw [hwa]; exact grown_alloc _ _ _)
                 have NA := Lib.hid (show CB wa gz 63 [.int .i64 1, .int .i64 0, .int .i64 0, .slice (some ⟨wr.heap.size, 0, none⟩) 1 1, .int .i64 ((a : Int) + 2)] by rw [hwa, ← hgz]; exact CB.new _ _ _)
                 rw [← hwa]
                 have hgz2 : wr.heap.size + 1 = gz := by rw [← hgz, World.size_alloc]
                 try rw [hgz2]
                 clear hgz2
                 have GM := Lib.hid (grown_trans' GG.out (grown_alloc wr (.cells #[.int .u8 255] 5) none))
                 have OB := Lib.hid (OwnB.none_ (OwnB.newN wr w.heap.size 5 [c1] #[.int .u8 255] (bc1 c1 (HC.out.symm.trans HX1.out.symm)) GG.out.size (by simp [maxLen])) GA.out)
                 try rw [hgz]
                 clear hwa hgz
                 refine wpList_appQ rfl (.tmp 49) (.tmp 54) rfl (t := (⟨1, 0, 0, [c1]⟩, a + 2)) (u := .slice (some ⟨wr.heap.size, 0, none⟩) 1 1) (ad := ⟨gz, 0, none⟩) (c := 1) ((OQ0.out.none_ (grown_alloc _ _ none)).none_ GA.out) (OB.out) (NA.out.at_ rfl) (NA.out.at_ rfl) (NA.out.at_ rfl) (NA.out.at_ rfl) (NA.out.at_ rfl) (by first | rfl | go_simp) (by first | rfl | go_simp) (by have := HAL.out; omega) (by have := GA.out.size; have := GM.out.size; omega) ?_
                 intro v2 w2 o2 g2 a2
                 have O2 := Lib.hid o2
                 have G2 := Lib.hid (grown_row (grown_trans' GM.out GA.out) g2 (fun z hz => (OQ0.out.lt z hz).1))
                 clear o2 g2 a2))
            go_roundw
            case rel => exact ⟨a + 2, _, _, by go_num, by omega, HT.out, by rw [List.length_append]; have := HAA.out; simp; omega, O2.out, G2.out⟩
            case measure => simp [intOf]; omega
          have e5 : (x1 == 255) = false := by rw [beq_eq_false_iff_ne]; omega
          by_cases hb250 : c1.toNat < 250
          · have e50 : x1 < 250 := by omega
            have HT := Lib.hid (HI.out.quiet (k := 2) (by rw [r0, run_quiet rfl (st1_pass (by omega) hb250)]))
            clear r0 d0 d1 hcell hc0 hc1 hx0 hx1
            go_wp2
            go_roundw
            case rel => exact ⟨a + 2, us, acc, by go_num, by omega, HT.out, by have := HAA.out; omega, OQ0.out, GG.out⟩
            case measure => simp [intOf]; omega
          have e50 : ¬ x1 < 250 := by omega
          by_cases hb251 : 250 < c1.toNat
          · have e51 : 250 < x1 := by omega
            rw [run_quiet rfl (st1_verb hb251 hb255)] at r0
            by_cases h2 : a + 2 < n
            · have h2b : a + 1 + 1 < b.length := by rw [HN.out]; exact h2
              obtain ⟨c2, hc2⟩ : ∃ c, c = b[a + 1 + 1] := ⟨_, rfl⟩
              have q2 := ((below_of_none GG.out).cell (p := ⟨ba, off + (a + 2), none⟩) hbb).trans (hcell (a + 2) h2b)
              have d2 := drop_at h2b
              rw [← hc2] at d2
              rw [show b[a + 2] = c2 from hc2.symm] at q2
              obtain ⟨x2, hx2⟩ : ∃ x, (c2.toNat : Int) = x := ⟨_, rfl⟩
              rw [hx2] at q2
              have HT := Lib.hid (HI.out.gives (k := 3) (p := ⟨2, x1, x2, []⟩) (by
                have hs : step ⟨2, ⟨2, (c1.toNat : Int), 0, []⟩, 0⟩ c2 = (ts0, some ⟨2, x1, x2, []⟩) := by rw [hx1, ← hx2]; rfl
                rw [r0, d2, run_gives rfl hs]))
              have g2 : ¬ (n : Int) ≤ (a : Int) + 2 := by omega
              have g2l : (a : Int) + 2 < (n : Int) := by omega
              have g20 : (0 : Int) ≤ (a : Int) + 2 := by omega
              have t2 : ((a : Int) + 2).toNat = a + 2 := by omega
              have hw4 : IntKind.i64.wrap ((a : Int) + 3 - 1) = (a : Int) + 2 := by simp [IntKind.wrap, IntKind.bits, IntKind.signed]; omega
              have u1 := u8w hx1
              have u2 := u8w hx2
              clear r0 d0 d1 d2 hcell hc0 hc1 hc2 hx0 hx1 hx2
              go_wp2_with (first
                | (at_builtin
                   obtain ⟨wa, hwa⟩ : ∃ wa, wa = (wr).alloc (.cells #[.int .i64 2, .int .i64 x1, .int .i64 x2, .slice none 0 0, .int .i64 ((a : Int) + 3)] 63) := ⟨_, rfl⟩
                   obtain ⟨gz, hgz⟩ : ∃ gz, (wr).heap.size = gz := ⟨_, rfl⟩
                   have GA := Lib.hid (show (wr).grownBy wa none by rw [hwa]; exact grown_alloc _ _ _)
                   have NA := Lib.hid (show CB wa gz 63 [.int .i64 2, .int .i64 x1, .int .i64 x2, .slice none 0 0, .int .i64 ((a : Int) + 3)] by rw [hwa, ← hgz]; exact CB.new _ _ _)
                   rw [← hwa]
                   have GM := Lib.hid GG.out
                   try rw [hgz]
                   clear hwa hgz
                   refine wpList_appQ rfl (.tmp 70) (.tmp 82) rfl (t := (⟨2, x1, x2, []⟩, a + 3)) (u := .slice none 0 0) (ad := ⟨gz, 0, none⟩) (c := 1) (OQ0.out.none_ GA.out) (OwnB.nil_ _ _ _) (NA.out.at_ rfl) (NA.out.at_ rfl) (NA.out.at_ rfl) (NA.out.at_ rfl) (NA.out.at_ rfl) (by first | rfl | go_simp) (by first | rfl | go_simp) (by have := HAL.out; omega) (by have := GA.out.size; have := GM.out.size; omega) ?_
                   intro v2 w2 o2 g2 a2
                   have O2 := Lib.hid o2
                   have G2 := Lib.hid (grown_row (grown_trans' GM.out GA.out) g2 (fun z hz => (OQ0.out.lt z hz).1))
                   clear o2 g2 a2))
              go_roundw
              case rel => exact ⟨a + 3, _, _, by go_num, by omega, HT.out, by rw [List.length_append]; have := HAA.out; simp; omega, O2.out, G2.out⟩
              case measure => simp [intOf]; omega
            · have g2 : (n : Int) ≤ (a : Int) + 2 := by omega
              have HF := Lib.hid (HI.out.fin (s := ⟨2, ⟨2, (c1.toNat : Int), 0, []⟩, 0⟩) (by rw [r0, List.drop_eq_nil_of_le (by rw [HN.out]; omega)]; rfl))
              clear r0 d0 d1 hcell hc0 hc1 hx0 hx1
              go_wp2
              go_ret2
              exact ⟨_, us, by rw [HF.out.2]; rfl, by rw [HF.out.1]; exact OQ0.out, GG.out⟩
          have e51 : ¬ 250 < x1 := by omega
          rw [run_quiet rfl (st1_sb (by omega))] at r0
          by_cases h2 : a + 2 < n
          · have h2b : a + 1 + 1 < b.length := by rw [HN.out]; exact h2
            obtain ⟨c2, hc2⟩ : ∃ c, c = b[a + 1 + 1] := ⟨_, rfl⟩
            have q2 := ((below_of_none GG.out).cell (p := ⟨ba, off + (a + 2), none⟩) hbb).trans (hcell (a + 2) h2b)
            have d2 := drop_at h2b
            rw [← hc2] at d2
            rw [show b[a + 2] = c2 from hc2.symm] at q2
            obtain ⟨x2, hx2⟩ : ∃ x, (c2.toNat : Int) = x := ⟨_, rfl⟩
            rw [hx2] at q2
            have hs2 : step ⟨3, ⟨3, 0, 0, []⟩, 0⟩ c2 = (⟨4, ⟨3, 0, x2, []⟩, 0⟩, none) := by rw [← hx2]; rfl
            have R0 := Lib.hid (show run ts0 a (b.drop a) = run ⟨4, ⟨3, 0, x2, []⟩, 0⟩ (a + 3) (b.drop (a + 3)) by rw [r0, d2, run_quiet rfl hs2])
            have g2 : ¬ (n : Int) ≤ (a : Int) + 2 := by omega
            have g2l : (a : Int) + 2 < (n : Int) := by omega
            have g20 : (0 : Int) ≤ (a : Int) + 2 := by omega
            have t2 : ((a : Int) + 2).toNat = a + 2 := by omega
            have u2 := u8w hx2
            have q2g := fun {wx : World} (hg : wr.grownBy wx none) => keepC hg q2
            have Q2 := Lib.hid (show ∀ wx : World, wr.grownBy wx none → wx.cell? ⟨ba, off + (a + 2), none⟩ = some (.int .u8 x2) from fun wx hg => keepC hg q2)
            have SB := Lib.hid (sub_spec (w := wr) (some ⟨ba, off, none⟩) b n cap (a + 3) HN.out ((HR.out.below (below_of_none GG.out)).more GG.out.size) (by omega) HNL.out)
            rw [show ((a + 3 : Nat) : Int) = (a : Int) + 3 by omega] at SB
            clear r0 d0 d1 d2 hs2 hcell hc0 hc1 hc2 hx0 hx1 hx2 q2 q2g
            go_wp2_with fail
            refine SB.out.mono ?_
            rintro e w3 ⟨v3, data, nx, er, rfl, hsub, o3, hdl, g3⟩
            obtain ⟨V3, c3, rfl, -, -⟩ := o3.shape
            obtain ⟨dn, hdn⟩ : ∃ x, data.length = x := ⟨_, rfl⟩
            have HDN := Lib.hid hdn
            rw [hdn] at o3
            rw [hdn]
            have O3 := Lib.hid o3
            have G3 := Lib.hid g3
            have HSUB := Lib.hid hsub
            clear o3 g3 hsub hdn hdl
            rcases HSUB.out with ⟨j, rfl, rfl, hj1, hj2, hj3⟩ | ⟨rfl, hj⟩
            · have HT := Lib.hid (show RdI b j (acc ++ [(⟨3, 0, x2, data⟩, j)]) from by
                have h4 := hj3 x2 (a + 3)
                rw [show a + 3 + (j - (a + 3)) = j by omega] at h4
                have h5 := R0.out.trans h4
                unfold RdI
                rw [HI.out, h5, List.append_assoc]
                rfl)
              have HJ := Lib.hid (show a + 3 < j ∧ j ≤ n by have := HN.out; omega)
              have hjn : ¬ (j : Int) < 0 := by omega
              clear hj1 hj2 hj3 HSUB SB
              go_wp2_with (first
                | (refine wpList_storeC (off := 0) (p := [.int .i64 3, .int .i64 0, .int .i64 0, .slice V3 dn c3]) szT rfl (.tmp 7) (.tmp 95) rfl (.agg #[.int .i64 3, .int .i64 0, .int .i64 0, .slice V3 dn c3]) rfl (fun u hu => by simp at hu; rcases hu with rfl | rfl | rfl | rfl <;> rfl) (CB.new w3 24 [.int .i64 0, .int .i64 0, .int .i64 0, .slice none 0 0]) rfl (by simp) (by first | rfl | go_simp) (by first | rfl | go_simp) ?_
                   intro w4 h4 g4
                   have N4 := Lib.hid (grown_row (grown_alloc w3 (.cells #[.int .i64 0, .int .i64 0, .int .i64 0, .slice none 0 0] 24) none) g4 (fun z hz => by injection hz with hz; omega))
                   have D4 := Lib.hid (show CB w4 w3.heap.size 24 [.int .i64 3, .int .i64 0, .int .i64 0, .slice V3 dn c3] from h4)
                   have q4 := Q2.out w4 (grown_trans' G3.out N4.out)
                   clear h4 g4)
                | (refine wpList_setC (off := 2) szI rfl (.tmp 112) (.tmp 111) rfl .i64 x2 D4.out (by simp) (by first | rfl | go_simp) (by first | rfl | go_simp) ?_
                   intro w5 h5 g5
                   have N5 := Lib.hid (grown_row N4.out g5 (fun z hz => by injection hz with hz; omega))
                   have D5 := Lib.hid (show CB w5 w3.heap.size 24 [.int .i64 3, .int .i64 0, .int .i64 x2, .slice V3 dn c3] from h5)
                   clear h5 g5)
                | (refine wpList_loadC (off := 0) (p := [.int .i64 3, .int .i64 0, .int .i64 x2, .slice V3 dn c3]) aggT4 rfl (.tmp 7) rfl D5.out rfl (by simp) (by first | rfl | go_simp) ?_)
                | (at_builtin
                   obtain ⟨wa, hwa⟩ : ∃ wa, wa = (w5).alloc (.cells #[.int .i64 3, .int .i64 0, .int .i64 x2, .slice V3 dn c3, .int .i64 (j : Int)] 63) := ⟨_, rfl⟩
                   obtain ⟨gz, hgz⟩ : ∃ gz, (w5).heap.size = gz := ⟨_, rfl⟩
                   have GA := Lib.hid (show (w5).grownBy wa none by rw [hwa]; exact grown_alloc _ _ _)
                   have NA := Lib.hid (show CB wa gz 63 [.int .i64 3, .int .i64 0, .int .i64 x2, .slice V3 dn c3, .int .i64 (j : Int)] by rw [hwa, ← hgz]; exact CB.new _ _ _)
                   rw [← hwa]
                   have GM := Lib.hid (grown_trans' (grown_trans' GG.out G3.out) N5.out)
                   try rw [hgz]
                   clear hwa hgz
                   refine wpList_appQ rfl (.tmp 114) (.tmp 118) rfl (t := (⟨3, 0, x2, data⟩, j)) (u := .slice V3 dn c3) (ad := ⟨gz, 0, none⟩) (c := 1) (((OQ0.out.none_ G3.out).none_ N5.out).none_ GA.out) (OwnB.none_ (OwnB.none_ (OwnB.base_ O3.out GG.out.size) N5.out) GA.out) (NA.out.at_ rfl) (NA.out.at_ rfl) (NA.out.at_ rfl) (NA.out.at_ rfl) (NA.out.at_ rfl) (by first | rfl | go_simp) (by first | rfl | go_simp) (by have := HAL.out; omega) (by have := GA.out.size; have := GM.out.size; omega) ?_
                   intro v2 w2 o2 g2 a2
                   have O2 := Lib.hid o2
                   have G2 := Lib.hid (grown_row (grown_trans' GM.out GA.out) g2 (fun z hz => (OQ0.out.lt z hz).1))
                   clear o2 g2 a2))
              go_roundw
              case rel => exact ⟨j, _, _, by first | rfl | go_num, by have := HJ.out; omega, HT.out, by rw [List.length_append]; have := HAA.out; have := HJ.out; simp; omega, O2.out, G2.out⟩
              case measure => have := HJ.out; simp [intOf]; omega
            · have HF := Lib.hid (HI.out.fin (s := (run ⟨4, ⟨3, 0, x2, []⟩, 0⟩ (a + 3) (b.drop (a + 3))).2) (by rw [R0.out]; exact Prod.ext (hj x2 (a + 3)).1 rfl))
              have HE := Lib.hid ((hj x2 (a + 3)).2)
              clear hj HSUB SB
              by_cases her : er = 0
              · subst her
                go_wp2_with (first
                  | (refine wpList_storeC (off := 0) (p := [.int .i64 3, .int .i64 0, .int .i64 0, .slice V3 dn c3]) szT rfl (.tmp 7) (.tmp 95) rfl (.agg #[.int .i64 3, .int .i64 0, .int .i64 0, .slice V3 dn c3]) rfl (fun u hu => by simp at hu; rcases hu with rfl | rfl | rfl | rfl <;> rfl) (CB.new w3 24 [.int .i64 0, .int .i64 0, .int .i64 0, .slice none 0 0]) rfl (by simp) (by first | rfl | go_simp) (by first | rfl | go_simp) ?_
                     intro w4 h4 g4
                     have N4 := Lib.hid (grown_row (grown_alloc w3 (.cells #[.int .i64 0, .int .i64 0, .int .i64 0, .slice none 0 0] 24) none) g4 (fun z hz => by injection hz with hz; omega))
                     clear h4 g4))
                go_ret2
                exact ⟨_, us, by rw [HF.out.2, HE.out]; rfl, by rw [HF.out.1]; exact (OQ0.out.none_ G3.out).none_ N4.out, grown_trans' (grown_trans' GG.out G3.out) N4.out⟩
              · have e0 : (er == 0) = false := by rw [beq_eq_false_iff_ne]; exact her
                go_wp2_with (first
                  | (refine wpList_storeC (off := 0) (p := [.int .i64 3, .int .i64 0, .int .i64 0, .slice V3 dn c3]) szT rfl (.tmp 7) (.tmp 95) rfl (.agg #[.int .i64 3, .int .i64 0, .int .i64 0, .slice V3 dn c3]) rfl (fun u hu => by simp at hu; rcases hu with rfl | rfl | rfl | rfl <;> rfl) (CB.new w3 24 [.int .i64 0, .int .i64 0, .int .i64 0, .slice none 0 0]) rfl (by simp) (by first | rfl | go_simp) (by first | rfl | go_simp) ?_
                     intro w4 h4 g4
                     have N4 := Lib.hid (grown_row (grown_alloc w3 (.cells #[.int .i64 0, .int .i64 0, .int .i64 0, .slice none 0 0] 24) none) g4 (fun z hz => by injection hz with hz; omega))
                     clear h4 g4))
                go_ret2
                exact ⟨_, us, by rw [HF.out.2, HE.out]; rfl, by rw [HF.out.1]; exact (OQ0.out.none_ G3.out).none_ N4.out, grown_trans' (grown_trans' GG.out G3.out) N4.out⟩
          · have g2 : (n : Int) ≤ (a : Int) + 2 := by omega
            have HF := Lib.hid (HI.out.fin (s := ⟨3, ⟨3, 0, 0, []⟩, 0⟩) (by rw [r0, List.drop_eq_nil_of_le (by rw [HN.out]; omega)]; rfl))
            clear r0 d0 d1 hcell hc0 hc1 hx0 hx1
            go_wp2
            go_ret2
            exact ⟨_, us, by rw [HF.out.2]; rfl, by rw [HF.out.1]; exact OQ0.out, GG.out⟩
        · have g1 : (n : Int) ≤ (a : Int) + 1 := by omega
          have HF := Lib.hid (HI.out.fin (s := ⟨1, tl0, 0⟩) (by rw [r0, List.drop_eq_nil_of_le (by rw [HN.out]; omega)]; rfl))
          clear r0 d0 hcell hc0 hx0
          go_wp2
          go_ret2
          exact ⟨_, us, by rw [HF.out.2]; rfl, by rw [HF.out.1]; exact OQ0.out, GG.out⟩
      · have e255 : (x0 == 255) = false := by rw [beq_eq_false_iff_ne]; omega
        have HT := Lib.hid (HI.out.gives (k := 1) (p := ⟨1, 0, 0, [c0]⟩) (by rw [d0, run_gives rfl (st_data h255)]))
        clear d0 hcell hc0 hx0
        go_wp2_with (first
          | (at_builtin
             obtain ⟨wa, hwa⟩ : ∃ wa, wa = (wr.alloc (.cells #[.int .u8 x0] 5)).alloc (.cells #[.int .i64 1, .int .i64 0, .int .i64 0, .slice (some ⟨wr.heap.size, 0, none⟩) 1 1, .int .i64 ((a : Int) + 1)] 63) := ⟨_, rfl⟩
             obtain ⟨gz, hgz⟩ : ∃ gz, (wr.alloc (.cells #[.int .u8 x0] 5)).heap.size = gz := ⟨_, rfl⟩
             have GA := Lib.hid (show (wr.alloc (.cells #[.int .u8 x0] 5)).grownBy wa none by rw [hwa]; exact grown_alloc _ _ _)
             have NA := Lib.hid (show CB wa gz 63 [.int .i64 1, .int .i64 0, .int .i64 0, .slice (some ⟨wr.heap.size, 0, none⟩) 1 1, .int .i64 ((a : Int) + 1)] by rw [hwa, ← hgz]; exact CB.new _ _ _)
             rw [← hwa]
             have hgz2 : wr.heap.size + 1 = gz := by rw [← hgz, World.size_alloc]
             try rw [hgz2]
             clear hgz2
             have GM := Lib.hid (grown_trans' GG.out (grown_alloc wr (.cells #[.int .u8 x0] 5) none))
             have OB := Lib.hid (OwnB.none_ (OwnB.newN wr w.heap.size 5 [c0] #[.int .u8 x0] (bc1 c0 HX0.out.symm) GG.out.size (by simp [maxLen])) GA.out)
             try rw [hgz]
             clear hwa hgz
             refine wpList_appQ rfl (.tmp 23) (.tmp 29) rfl (t := (⟨1, 0, 0, [c0]⟩, a + 1)) (u := .slice (some ⟨wr.heap.size, 0, none⟩) 1 1) (ad := ⟨gz, 0, none⟩) (c := 1) ((OQ0.out.none_ (grown_alloc _ _ none)).none_ GA.out) (OB.out) (NA.out.at_ rfl) (NA.out.at_ rfl) (NA.out.at_ rfl) (NA.out.at_ rfl) (NA.out.at_ rfl) (by first | rfl | go_simp) (by first | rfl | go_simp) (by have := HAL.out; omega) (by have := GA.out.size; have := GM.out.size; omega) ?_
             intro v2 w2 o2 g2 a2
             have O2 := Lib.hid o2
             have G2 := Lib.hid (grown_row (grown_trans' GM.out GA.out) g2 (fun z hz => (OQ0.out.lt z hz).1))
             clear o2 g2 a2))
        go_roundw
        case rel => exact ⟨a + 1, _, _, by go_num, by omega, HT.out, by rw [List.length_append]; have := HAA.out; simp; omega, O2.out, G2.out⟩
        case measure => simp [intOf]; omega
    · obtain rfl : a = n := by omega
      have hai : ¬ (a : Int) < (a : Int) := by omega
      have HF := Lib.hid (HI.out.fin (s := ts0) (by rw [List.drop_eq_nil_of_le (by rw [HN.out]; exact Nat.le_refl _)]; rfl))
      go_wp2
      go_ret2
      exact ⟨_, us, by rw [HF.out.2]; rfl, by rw [HF.out.1]; exact OQ0.out, GG.out⟩
end Go.Proofs.Ytcfhpoigfkljpaa
