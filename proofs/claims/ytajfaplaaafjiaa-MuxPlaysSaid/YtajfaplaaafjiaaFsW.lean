/- Texts that came in; the walk of FrameStops. -/
import Derived.Test.YtajfaplaaafjiaaFwW
namespace Go.Proofs.Ytajfaplaaafjiaa
open Go.ChangeShapes Go.WideShapes Go.RowKit

/-- The slice at A reads as these texts; all in blocks below B. -/
def RT (w : World) (B : Nat) (A : Option Addr) (ls : List (List UInt8)) (cap : Nat) : Prop :=
  ls.length ≤ cap ∧ cap ≤ maxLen ∧ ((A = none ∧ cap = 0) ∨ ∃ a, A = some a ∧ ∀ k l, ls[k]? = some l → a.block < B ∧ ∃ V c, w.cell? (a.add k) = some (.slice V l.length c) ∧ RB w B V l c)
section
variable {w w' : World} {B B' cap : Nat} {A : Option Addr} {ls : List (List UInt8)}
theorem RT.nil_ (w : World) (B : Nat) : RT w B none [] 0 := ⟨Nat.le_refl _, Nat.zero_le _, .inl ⟨rfl, rfl⟩⟩
theorem RT.below (h : RT w B A ls cap) (hb : Below B w w') : RT w' B A ls cap :=
  ⟨h.1, h.2.1, h.2.2.imp id fun ⟨a, hA, hc⟩ => ⟨a, hA, fun k l hl => by
    obtain ⟨h1, V, c, h2, h3⟩ := hc k l hl
    exact ⟨h1, V, c, (hb.cell (p := a.add k) (by rw [add_block]; exact h1)).trans h2, h3.below hb⟩⟩⟩
theorem RT.open_ (h : RT w B A ls cap) (hp : 0 < ls.length) :
    ∃ b off, A = some ⟨b, off, none⟩ ∧ b < B ∧ ∀ k l, ls[k]? = some l → ∃ V c, w.cell? ⟨b, off + k, none⟩ = some (.slice V l.length c) ∧ RB w B V l c := by
  rcases h.2.2 with ⟨_, h0⟩ | ⟨⟨b, off, s⟩, hA, hc⟩
  · have := h.1; omega
  · obtain ⟨hb, V, c, h0, -⟩ := hc 0 _ (List.getElem?_eq_getElem hp)
    have hs : s = none := by simpa [Addr.add] using World.cell?_spot h0
    subst hs
    refine ⟨b, off, hA, hb, fun k l hl => ?_⟩
    obtain ⟨_, V, c, h1, h2⟩ := hc k l hl
    exact ⟨V, c, by rwa [Addr.add_lit] at h1, h2⟩
end

theorem none_mod {w x y : World} {r : Nat} {v : Value} {p : List UInt8} {e : Int} (hg : w.grownBy x none) (hR : RD x w.heap.size r v p e) (hM : Mod (rdS r v) x y) : w.grownBy y none :=
  ⟨hM.os.trans hg.os, hM.tape.trans hg.tape, hM.output.trans hg.output, Nat.le_trans hg.size hM.size, fun k hk hn => (hM.block k (Nat.lt_of_lt_of_le hk hg.size) (fun e => by
    rcases e with e | e
    · have := hR.1; omega
    · have := (hR.vlt k e).1; omega)).trans (hg.block k hk hn)⟩
theorem RD.base_ {w : World} {b base r : Nat} {v : Value} {p : List UInt8} {e : Int} (h : RD w base r v p e) (hb : b ≤ base) : RD w b r v p e := ⟨Nat.le_trans hb h.1, h.2.1, h.2.2.base_ hb⟩
/-- What was made behind the Reader is apart from it. -/
theorem Apart.own {w x : World} {base r : Nat} {v : Value} {p : List UInt8} {e : Int} (h : RD w base r v p e) {t : TypeId} {b : Nat} {A : Option Addr} {n c : Nat} {d : List UInt8} (ho : OwnB x b t (.slice A n c) d) (hb : w.heap.size ≤ b) : Apart A d r v := by
  intro a ha _
  subst ha
  have h1 := (ho.lt a.block rfl).1
  exact ⟨by have := h.lt.2; omega, fun e => by have := (h.vlt _ e).2.1; omega⟩
theorem feedF_bad (bad : List UInt8) : feedF [] 0 (5 :: bad) = ([], [], 100) := by
  have h : scan (5 :: bad) = ([], [], 100) := scan_chan (by simp) (show 4 < (5 : UInt8).toNat by decide)
  unfold feedF
  rw [if_neg (by simp), List.nil_append, h]
  simp
theorem runLen (x y : Nat) : x ≤ y → (x : Int) ≤ (y : Int) := by omega

/-- What stands at the head of each round. -/
def StRel (w : World) (r : Nat) (m : Nat) (s8 s41 : Value) (wr : World) : Prop :=
  ∃ (k n : Nat) (v : Value), s41 = .int .i64 k ∧ k ≤ m ∧ s8 = .int .i64 n ∧ n ≤ k ∧ RD wr w.heap.size r v [] 0 ∧ w.grownBy wr none

set_option maxRecDepth 10000 in
set_option maxHeartbeats 8000000 in
theorem walk_FrameStops (w : World) (A0 : Option Addr) (fs : List Fr) (cap0 : Nat) (h0 : RF w w.heap.size A0 fs cap0) (hb : ∀ f ∈ fs, -9223372036854775808 ≤ f.1 ∧ f.1 ≤ 9223372036854775807) (A1 : Option Addr) (bad : List UInt8) (cap1 : Nat) (h1 : RB w w.heap.size A1 bad cap1) (A2 : Option Addr) (ls : List (List UInt8)) (cap2 : Nat) (h2 : RT w w.heap.size A2 ls cap2) (_ : True) :
    Calls Try.prog 6 #[.slice A0 fs.length cap0, .slice A1 bad.length cap1, .slice A2 ls.length cap2] w fun e w' => e = .returned (.bool true) ∧ Below w.heap.size w w' := by
  have H0 := Lib.hid h0
  have H1 := Lib.hid h1
  have H2 := Lib.hid h2
  have HB := Lib.hid hb
  obtain ⟨m0, hm0⟩ : ∃ m, fs.length = m := ⟨_, rfl⟩
  obtain ⟨m1, hm1⟩ : ∃ m, bad.length = m := ⟨_, rfl⟩
  obtain ⟨m2, hm2⟩ : ∃ m, ls.length = m := ⟨_, rfl⟩
  have M0 := Lib.hid hm0
  have M1 := Lib.hid hm1
  have M2 := Lib.hid hm2
  have l0 : m0 ≤ 9223372036854775807 := by have := h0.1; have := h0.2.1; unfold maxLen at this; omega
  have l1 : m1 ≤ 9223372036854775807 := by have := h1.1; have := h1.2.1; unfold maxLen at this; omega
  have l2 : m2 ≤ 9223372036854775807 := by have := h2.1; have := h2.2.1; unfold maxLen at this; omega
  rw [hm0, hm1, hm2]
  clear h0 h1 h2 hb hm0 hm1 hm2
  by_cases g0 : 10 < m0
  · have gi : (10 : Int) < (m0 : Int) := by omega
    go_enter Try.func6, Try.ntmps6
    go_wp2_with (go_at_call 11; refine (speaks_any _).mono ?_; rintro e w1 ⟨rfl, g1⟩; have G1 := Lib.hid g1; clear g1)
    go_ret
    exact ⟨rfl, below_of_none G1.out⟩
  have g0i : (m0 : Int) ≤ 10 := by omega
  by_cases g2 : 10 < m2
  · have gi : (10 : Int) < (m2 : Int) := by omega
    go_enter Try.func6, Try.ntmps6
    go_wp2_with (go_at_call 11; refine (speaks_any _).mono ?_; rintro e w1 ⟨rfl, g1⟩; have G1 := Lib.hid g1; clear g1)
    go_ret
    exact ⟨rfl, below_of_none G1.out⟩
  have g2i : (m2 : Int) ≤ 10 := by omega
  by_cases g1 : 100 < m1
  · have gi : (100 : Int) < (m1 : Int) := by omega
    go_enter Try.func6, Try.ntmps6
    go_wp2_with (go_at_call 11; refine (speaks_any _).mono ?_; rintro e w1 ⟨rfl, g1⟩; have G1 := Lib.hid g1; clear g1)
    go_ret
    exact ⟨rfl, below_of_none G1.out⟩
  have g1i : (m1 : Int) ≤ 100 := by omega
  have HM1 := Lib.hid (show m1 ≤ 100 by omega)
  clear g0 g1 g2
  go_enter Try.func6, Try.ntmps6
  go_wp2_with (first
    | (go_at_call 11; refine (speaks_any _).mono ?_; rintro e w1 ⟨rfl, g1⟩; have G1 := Lib.hid g1; clear g1)
    | (go_at_call 14; refine (newReader_any _).mono ?_; rintro e w2 ⟨rfl, r2, g2⟩; have S2 := Lib.hid (show StRel w w1.heap.size m0 (.int .i64 0) (.int .i64 0) w2 from ⟨0, 0, _, rfl, Nat.zero_le _, rfl, Nat.le_refl _, r2.base_ G1.out.size, grown_trans' G1.out g2⟩); clear r2 g2))
  clear G1
  generalize w1.heap.size = r at *
  go_loopw [8, 41] (fun s8 s41 wr => StRel w r m0 s8 s41 wr) (fun _ s41 _ => m0 - (intOf s41).toNat)
  case atStart => exact S2.out
  case round =>
    obtain ⟨k, n, v, rfl, hk, rfl, hnk, hR, hG⟩ := hrel
    have R0 := Lib.hid hR
    have G0 := Lib.hid hG
    clear hR hG
    by_cases hlt : k < m0
    · obtain ⟨b, off, rfl, hbb, hc⟩ := H0.out.open_ (by have := M0.out; omega)
      obtain ⟨f, hf⟩ : ∃ f, fs[k]? = some f := ⟨_, List.getElem?_eq_getElem (by have := M0.out; omega)⟩
      obtain ⟨c1, V, cv, c2, hV⟩ := hc k f hf
      have hci := HB.out f (List.mem_of_getElem? hf)
      obtain ⟨c, l⟩ := f
      obtain ⟨ln, hln⟩ : ∃ x, l.length = x := ⟨_, rfl⟩
      simp only at c1 c2 hV hci
      rw [hln] at c2
      have L0 := Lib.hid hln
      have hlm : ln ≤ 9223372036854775807 := by have := hV.1; have := hV.2.1; unfold maxLen at this; omega
      have HV := Lib.hid hV
      have HC := Lib.hid (show I64 c from hci)
      have q1 := ((below_rw G0.out (Nat.le_refl _)).cell (p := ⟨b, off + k * 2, none⟩) hbb).trans c1
      have q2 := ((below_rw G0.out (Nat.le_refl _)).cell (p := ⟨b, off + k * 2 + 1, none⟩) hbb).trans c2
      have hki : (k : Int) < (m0 : Int) := by omega
      have hwn : IntKind.i64.wrap ((n : Int) + 1) = (n : Int) + 1 := by simp [IntKind.wrap, IntKind.bits, IntKind.signed]; omega
      clear hc hf c1 c2 hV hci hln hbb
      by_cases h1000 : 1000 < ln
      · have hi : (1000 : Int) < (ln : Int) := by omega
        go_wp2
        go_ret
        exact ⟨rfl, below_of_none (grown_trans' G0.out (grown_alloc _ _ _))⟩
      have hi : (ln : Int) ≤ 1000 := by omega
      have HLN := Lib.hid (show ln ≤ 1000 by omega)
      obtain ⟨en, hen⟩ : ∃ en, (wrF (c, l)).2 = en := ⟨_, rfl⟩
      obtain ⟨bs, hbs⟩ : ∃ bs, (wrF (c, l)).1 = bs := ⟨_, rfl⟩
      have HEN := Lib.hid hen
      have HBS := Lib.hid hbs
      have HBL := Lib.hid (show bs.length ≤ 2003 by rw [← hbs]; have := wrF_len c l ln L0.out; have := HLN.out; omega)
      obtain ⟨bn, hbn⟩ : ∃ bn, bs.length = bn := ⟨_, rfl⟩
      have HBN := Lib.hid hbn
      have GA := Lib.hid (show w.grownBy (wr.alloc (.cells #[.int .i64 c, .slice V ln cv] 24)) none from grown_trans' G0.out (grown_alloc _ _ _))
      have HW := Lib.hid (write_any (wr.alloc (.cells #[.int .i64 c, .slice V ln cv] 24)) c HC.out V l ln cv L0.out ((HV.out.below (below_rw GA.out (Nat.le_refl _))).more GA.out.size) (by omega))
      rw [hen, hbs] at HW
      clear hen hbs hbn h1000 hlm
      by_cases he : en = 0
      · subst he
        obtain ⟨k1, k2, k3, k4⟩ := wrF_ok HEN.out
        have HFB := Lib.hid (show feedF [] 0 bs = ([(c, l)], [], 0) by rw [← HBS.out, k4]; exact feedF_frB ⟨k1, k2⟩ k3)
        clear k1 k2 k3 k4
        go_wp2_with (first
          | (go_at_call 12
             refine HW.out.mono ?_
             rintro e w3 ⟨v3, rfl, o3, g3⟩
             obtain ⟨A3, c3, rfl, r3, -⟩ := o3.shape
             rw [HBN.out]
             have O3 := Lib.hid o3
             have R3 := Lib.hid r3
             have D3 := Lib.hid ((R0.out.made (grown_alloc wr (.cells #[.int .i64 c, .slice V ln cv] 24) none)).made g3)
             have G3 := Lib.hid (grown_trans' GA.out g3)
             have AP := Lib.hid (Apart.own (R0.out.made (grown_alloc wr (.cells #[.int .i64 c, .slice V ln cv] 24) none)) o3 (Nat.le_refl _))
             clear o3 r3 g3)
          | (go_at_call 15
             refine (feed_open _ _ _ _ _ D3.out (.inl rfl) A3 bs bn c3 HBN.out R3.out AP.out (by have := HBL.out; have := HBN.out; omega)).mono ?_
             rintro e w6 ⟨vf, v6, rfl, o6, r6, m6, -⟩
             rw [HFB.out] at o6 r6 ⊢
             obtain ⟨A6, c6, rfl, -, -⟩ := o6.shape
             have R6 := Lib.hid r6
             have G6 := Lib.hid (none_mod G3.out D3.out m6)
             clear o6 r6 m6))
        go_roundw
        case rel => exact ⟨k + 1, n + 1, v6, by go_num, by omega, by go_num, by omega, R6.out, G6.out⟩
        case measure => simp [intOf]; omega
      · have hne : (en == 0) = false := by rw [beq_eq_false_iff_ne]; exact he
        go_wp2_with (go_at_call 12
                     refine HW.out.mono ?_
                     rintro e w3 ⟨v3, rfl, o3, g3⟩
                     obtain ⟨A3, c3, rfl, r3, -⟩ := o3.shape
                     have D3 := Lib.hid ((R0.out.made (grown_alloc wr (.cells #[.int .i64 c, .slice V ln cv] 24) none)).made g3)
                     have G3 := Lib.hid (grown_trans' GA.out g3)
                     clear o3 r3 g3)
        go_roundw
        case rel => exact ⟨k + 1, n, v, by go_num, by omega, rfl, by omega, D3.out, G3.out⟩
        case measure => simp [intOf]; omega
    · obtain rfl : k = m0 := by omega
      clear hlt
      have H1r := Lib.hid ((H1.out.below (below_rw G0.out (Nat.le_refl _))).alloc G0.out.size (.cells #[.int .u8 5] 5))
      go_wp2_with (first
        | (at_builtin
           refine wpList_appB byteT rfl (.tmp 74) (.tmp 75) rfl (OwnB.new1 wr wr.heap.size 5 5 5 (by decide) (Nat.le_refl _)) H1r.out (by first | rfl | go_simp) (by rw [M1.out]; first | rfl | go_simp) (by rw [M1.out]; have := HM1.out; simp; omega) (by simp) ?_
           intro v2 w2 o2 g2 _ a2
           have D2 := Lib.hid ((R0.out.made (grown_new (grown_alloc wr (.cells #[.int .u8 5] 5) none) g2 (by simp))))
           have G2 := Lib.hid (grown_trans' G0.out (grown_new (grown_alloc wr (.cells #[.int .u8 5] 5) none) g2 (by simp)))
           obtain ⟨A2b, c2b, hv2, r2, -⟩ := o2.shape
           subst hv2
           have AP := Lib.hid (Apart.own R0.out o2 (Nat.le_refl _))
           have R2 := Lib.hid r2
           have HL := Lib.hid (show (5 :: bad).length = m1 + 1 by rw [List.length_cons, M1.out])
           rw [show (([5] : List UInt8) ++ bad).length = m1 + 1 by rw [← HL.out]; rfl]
           clear o2 g2 a2 r2)
        | (go_at_call 15
           refine (feed_open _ _ _ _ _ D2.out (.inl rfl) A2b (5 :: bad) (m1 + 1) c2b HL.out R2.out AP.out (by have := HM1.out; omega)).mono ?_
           rintro e w6 ⟨vf, v6, rfl, o6, r6, m6, -⟩
           rw [feedF_bad] at o6 r6 ⊢
           obtain ⟨A6, c6, rfl, -, -⟩ := o6.shape
           have R6 := Lib.hid (show ∃ v, RD w6 w.heap.size r v [] 100 from ⟨_, r6⟩)
           have G6 := Lib.hid (none_mod G2.out D2.out m6)
           clear o6 r6 m6))
      go_loopw [82] (fun s82 wq => ∃ (j : Nat) (v : Value), s82 = .int .i64 j ∧ j ≤ m2 ∧ RD wq w.heap.size r v [] 100 ∧ w.grownBy wq none) (fun s82 _ => m2 - (intOf s82).toNat)
      case atStart =>
        obtain ⟨v6, h6⟩ := R6.out
        exact ⟨0, v6, rfl, Nat.zero_le _, h6, G6.out⟩
      case round =>
        obtain ⟨j, vq, rfl, hj, hRq, hGq⟩ := hrel
        by_cases hjm : j < m2
        · obtain ⟨b2, off2, rfl, hb2, hc2⟩ := H2.out.open_ (by have := M2.out; omega)
          obtain ⟨l, hl⟩ : ∃ l, ls[j]? = some l := ⟨_, List.getElem?_eq_getElem (by have := M2.out; omega)⟩
          obtain ⟨V, cv, k1, -⟩ := hc2 j l hl
          have q1 := ((below_rw hGq (Nat.le_refl _)).cell (p := ⟨b2, off2 + j, none⟩) hb2).trans k1
          obtain ⟨ln, hln⟩ : ∃ x, l.length = x := ⟨_, rfl⟩
          rw [hln] at q1
          have FS := Lib.hid (feed_shut wr w.heap.size r vq 100 hRq (by decide) V ln cv)
          have RQ := Lib.hid hRq
          have GQ := Lib.hid hGq
          have hji : (j : Int) < (m2 : Int) := by omega
          clear hc2 hl k1 hRq hGq hln hb2
          go_wp2_with (first
            | (go_at_call 15; refine FS.out.mono ?_; rintro e w7 ⟨rfl, d7⟩; have D7 := Lib.hid d7; clear d7)
            | (go_at_call 17; refine (rest_any w7 _ _ _ _ _ (RQ.out.dr D7.out)).mono ?_; rintro e w8 ⟨rfl, rfl⟩))
          go_roundw
          case rel => exact ⟨j + 1, vq, by go_num, by omega, RQ.out.dr D7.out, grown_trans' GQ.out (D7.out.made none)⟩
          case measure => simp [intOf]; omega
        · obtain rfl : j = m2 := by omega
          go_wp2
          go_ret
          exact ⟨rfl, below_of_none hGq⟩
end Go.Proofs.Ytajfaplaaafjiaa
