/- The walk of TeloptFeeds. -/
import Derived.Test.YtcfhpoigfkljpaaTmf
import Derived.Test.YtcfhpoigfkljpaaTlz
namespace Go.Proofs.Ytcfhpoigfkljpaa
open Go.ChangeShapes Go.WideShapes Go.RowKit
set_option linter.unusedVariables false

theorem sz8 : (Try.prog.info? 5).map (·.size) = some 1 := by kernel_rfl
theorem own_CB {w : World} {b : Nat} {A : Option Addr} {n c : Nat} {l : List UInt8} (h : OwnB w b 5 (.slice A n c) l) : ∀ g, (Value.slice A n c).ownBlock = some g → A = some ⟨g, 0, none⟩ ∧ n ≤ c ∧ ∃ cs, CB w g 5 cs ∧ cs.length = c := by
  intro g hg
  rcases h.2 with ⟨hv, _⟩ | ⟨g', cap, cur, hv, _, hg', hc, _, hz, _⟩
  · rw [hv] at hg; simp [Value.ownBlock] at hg
  · simp only [Value.slice.injEq] at hv
    obtain ⟨rfl, rfl, rfl⟩ := hv
    have e : g' = g := by simpa [Value.ownBlock] using hg
    subst e
    exact ⟨rfl, hc, cur.toList, by rw [CB, Array.toArray_toList]; exact hg', by simpa using hz⟩
theorem RB.none_len {w : World} {B : Nat} {l : List UInt8} {c : Nat} (h : RB w B none l c) : l.length = 0 := by
  obtain ⟨h1, _, h3⟩ := h
  rcases h3 with ⟨_, h⟩ | ⟨a, h, _⟩
  · omega
  · cases h
theorem same_nil (w : World) (A : Option Addr) (ts : List Tl) (n cap : Nat) (hn : ts.length = n) (h0 : ts = []) (h : RP w w.heap.size A ts cap) :
    Calls Try.prog 13 #[.slice A n cap, .slice none 0 0] w fun e w' => e = .returned (.bool true) ∧ w.grownBy w' none := by
  subst h0
  obtain rfl : n = 0 := hn.symm
  exact same_any w A none [] 0 cap 0 w.heap.size rfl h (RP.nil_ _ _) (Nat.le_refl _)
/-- The data's blocks. -/
def SpS (vs : List Value) (k : Nat) : Prop := ∃ u ∈ vs, u.ownBlock = some k
/-- The data can be written. -/
def SpI (vs : List Value) (x : World) : Prop := ∀ u ∈ vs, ∀ g, u.ownBlock = some g → ∃ n c cs, u = .slice (some ⟨g, 0, none⟩) n c ∧ n ≤ c ∧ CB x g 5 cs ∧ cs.length = c
theorem SpI.set {vs : List Value} {x y : World} {g j : Nat} {cs : List Value} {z : Value} (h : SpI vs x) (hc : CB x g 5 cs) (hg : x.grownBy y (some g)) (hy : CB y g 5 (cs.set j z)) : SpI vs y := by
  intro u hu g' hg'
  obtain ⟨n, c, cs', h1, h2, h3, h4⟩ := h u hu g' hg'
  by_cases e : g' = g
  · subst e
    have : cs' = cs := by
      have e1 := h3.symm.trans hc
      injection e1 with e1
      injection e1 with e1
      exact List.toArray_inj e1
    subst this
    exact ⟨n, c, _, h1, h2, hy, by rw [List.length_set]; exact h4⟩
  · exact ⟨n, c, cs', h1, h2, h3.grown hg e, h4⟩
theorem spo_of {w : World} {b bb : Nat} {vs : List Value} {v : Value} {ts : List Tl} (h : OwnP w b bb vs v ts) :
    (∀ i u, vs[i]? = some u → ∃ gr, v.ownBlock = some gr ∧ w.cell? ⟨gr, i * 4 + 3, none⟩ = some u ∧ ¬ SpS vs gr ∧ ∃ V n c, u = .slice V n c ∧ (V = none → n = 0) ∧ n ≤ 9223372036854775807) ∧ SpI vs w := by
  have hS : ∀ u ∈ vs, ∃ f, OwnB w bb 5 u f := by
    intro u hu
    obtain ⟨i, hi⟩ := List.mem_iff_getElem?.1 hu
    have hlt := (List.getElem?_eq_some_iff.1 hi).1
    exact ⟨_, h.dat i _ u (List.getElem?_eq_getElem (by have := h.len; omega)) hi⟩
  refine ⟨fun i u hu => ?_, fun u hu g hg => ?_⟩
  · have hlt := (List.getElem?_eq_some_iff.1 hu).1
    have ht := List.getElem?_eq_getElem (l := ts) (i := i) (by have := h.len; omega)
    obtain ⟨_, _, _, _, _, hne⟩ := h.shape
    obtain ⟨gr, hgr⟩ := hne (by have := h.len; omega)
    obtain ⟨-, -, -, e3⟩ := h.cells_at ht hu hgr
    obtain ⟨f, ho⟩ := hS u (List.mem_of_getElem? hu)
    obtain ⟨V, c, rfl, hr, -⟩ := ho.shape
    refine ⟨gr, hgr, e3, fun ⟨x, hx, e⟩ => ?_, V, _, c, rfl, (fun e => by subst e; exact hr.none_len), by have h1 := hr.1; have h2 := hr.2.1; unfold maxLen at h2; omega⟩
    obtain ⟨f2, ho2⟩ := hS x hx
    exact h.ne_own ho2 e hgr
  · obtain ⟨f, ho⟩ := hS u hu
    obtain ⟨A, c, rfl, -, -⟩ := ho.shape
    obtain ⟨rfl, h6, cs, h7, h8⟩ := own_CB ho g hg
    exact ⟨_, c, cs, rfl, h6, h7, h8⟩
theorem feedT_len2 (s : Ts) (d : List UInt8) : (feedT s d).length ≤ d.length := by
  unfold feedT
  split
  · simp
  · exact Nat.le_trans (putF_length _) (evs_length _ _)
def FdL (w : World) (r m : Nat) (s4 s5 s28 : Value) (wr : World) : Prop :=
  ∃ (k : Nat) (a : List UInt8) (pv : Value), s28 = .int .i64 k ∧ k ≤ m ∧ OwnB wr w.heap.size 5 s4 a ∧ a.length ≤ 13000 ∧ s5 = .int .i64 (endT ts0 a).err ∧ RD wr w.heap.size r pv (endT ts0 a) ∧ (∀ g, s4.ownBlock = some g → pv.ownBlock ≠ some g) ∧ w.grownBy wr none

set_option maxRecDepth 20000 in
set_option maxHeartbeats 16000000 in
theorem walk_TeloptFeeds (w : World) (A0 : Option Addr) (ls : List (List UInt8)) (cap0 : Nat) (h0 : RT w w.heap.size A0 ls cap0) (_ : True) :
    Calls Try.prog 4 #[.slice A0 ls.length cap0] w fun e w' => e = .returned (.bool true) ∧ Below w.heap.size w w' := by
  have H0 := Lib.hid h0
  obtain ⟨m0, hm0⟩ : ∃ m, ls.length = m := ⟨_, rfl⟩
  have M0 := Lib.hid hm0
  have k0 : m0 ≤ 9223372036854775807 := by have := h0.1; have := h0.2.1; unfold maxLen at this; omega
  rw [hm0]
  clear h0 hm0
  by_cases g0 : 40 < m0
  · have gi : (40 : Int) < (m0 : Int) := by omega
    go_enter Try.func4, Try.ntmps4
    go_wp2_with (go_at_call 8; refine (speaks_any _).mono ?_; rintro e w1 ⟨rfl, g1⟩; have G1 := Lib.hid g1; clear g1)
    go_ret
    exact ⟨rfl, below_of_none G1.out⟩
  have g0i : ¬ (40 : Int) < (m0 : Int) := by omega
  have HM0 := Lib.hid (show m0 ≤ 40 by omega)
  clear g0
  go_enter Try.func4, Try.ntmps4
  go_wp2_with (first
    | (go_at_call 8; refine (speaks_any _).mono ?_; rintro e w1 ⟨rfl, g1⟩; have G1 := Lib.hid g1; clear g1)
    | (go_at_call 11; refine (newReader_any _).mono ?_; rintro e w2 ⟨rfl, r2, g2⟩; have R2 := Lib.hid (r2.base_ G1.out.size); have G2 := Lib.hid (grown_trans' G1.out g2); clear r2 g2))
  have S2 := Lib.hid (show FdL w w1.heap.size m0 (.slice (some ⟨w2.heap.size, 0, none⟩) 0 0) (.int .i64 0) (.int .i64 0) (w2.alloc (.cells #[] 5)) from ⟨0, [], .slice none 0 0, rfl, Nat.zero_le _, OwnB.new0 _ _ _ G2.out.size, by simp, rfl, R2.out.made (grown_alloc _ _ none), fun g _ e => by simp [Value.ownBlock] at e, grown_trans' G2.out (grown_alloc _ _ none)⟩)
  clear R2 G2 G1
  generalize w1.heap.size = r at *
  generalize w2.alloc (.cells #[] 5) = ws at *
  go_loopw [4, 5, 28] (fun s4 s5 s28 wr => FdL w r m0 s4 s5 s28 wr) (fun _ _ s28 _ => m0 - (intOf s28).toNat)
  case atStart => exact S2.out
  case round =>
    obtain ⟨wo, hwo⟩ : ∃ wo : World, wo = wr := ⟨_, rfl⟩
    subst hwo
    obtain ⟨k, a, pv, rfl, hk, hal, hbl, rfl, hR, hne, hG⟩ := hrel
    obtain ⟨A4, c4, hv4, -, -⟩ := hal.shape
    subst hv4
    obtain ⟨an, han⟩ : ∃ x, a.length = x := ⟨_, rfl⟩
    have HAN := Lib.hid han
    rw [han] at hal hne hbl
    rw [han]
    have AL := Lib.hid hal
    have R0 := Lib.hid hR
    have NE := Lib.hid hne
    have G0 := Lib.hid hG
    obtain ⟨S, hS⟩ : ∃ S, endT ts0 a = S := ⟨_, rfl⟩
    have HS := Lib.hid hS
    have HOK := Lib.hid (show OkT S by rw [← hS]; exact ok_end _)
    rw [hS] at R0
    rw [hS]
    obtain ⟨e1, he1⟩ : ∃ x, S.err = x := ⟨_, rfl⟩
    have HE1 := Lib.hid he1
    rw [he1]
    clear hal hR hne hG hS he1 han
    by_cases hlt : k < m0
    · have HKM := Lib.hid hlt
      obtain ⟨b, off, rfl, hbb, hc⟩ := H0.out.open_ (by have := M0.out; omega)
      obtain ⟨l, hl⟩ : ∃ l, ls[k]? = some l := ⟨_, List.getElem?_eq_getElem (by have := M0.out; omega)⟩
      obtain ⟨V, cv, c1, hV⟩ := hc k l hl
      obtain ⟨ln, hln⟩ : ∃ x, l.length = x := ⟨_, rfl⟩
      rw [hln] at c1
      have L0 := Lib.hid hln
      have HV := Lib.hid hV
      have hlm : ln ≤ 9223372036854775807 := by have := hV.1; have := hV.2.1; unfold maxLen at this; omega
      have q1 := ((below_of_none G0.out).cell (p := ⟨b, off + k, none⟩) hbb).trans c1
      have hki : (k : Int) < (m0 : Int) := by omega
      clear hc hl c1 hV hln hbb
      by_cases h3 : 4000 < ln
      · have hi : (4000 : Int) < (ln : Int) := by omega
        go_wp2
        go_ret
        exact ⟨rfl, below_of_none G0.out⟩
      have hi : ¬ (4000 : Int) < (ln : Int) := by omega
      by_cases h2 : 9000 < an
      · have hi2 : (9000 : Int) < (an : Int) := by omega
        go_wp2
        go_ret
        exact ⟨rfl, below_of_none G0.out⟩
      have hi2 : ¬ (9000 : Int) < (an : Int) := by omega
      have HL3 := Lib.hid (show ln ≤ 4000 ∧ an ≤ 9000 by omega)
      clear h3 h2 hlm
      have HVr := Lib.hid ((HV.out.below (below_of_none G0.out)).alloc G0.out.size (.cells #[] 5))
      obtain ⟨e2, he2⟩ : ∃ x, (endT S l).err = x := ⟨_, rfl⟩
      obtain ⟨FT, hFT⟩ : ∃ x, feedT S l = x := ⟨_, rfl⟩
      have HE2 := Lib.hid he2
      have HFT := Lib.hid hFT
      have HEA := Lib.hid (show endT ts0 (a ++ l) = endT S l by rw [endT_app, HS.out])
      have HSE := Lib.hid (show e1 ≠ 0 → e2 = e1 from fun h => by rw [← he2, endT_stop (by rw [HE1.out]; exact h), HE1.out])
      have HWT := Lib.hid (show (e2 ≠ 0 → FT = []) ∧ (e2 = 0 → FT = putF (evs S l)) from ⟨fun h => by rw [← hFT]; unfold feedT; rw [run_end, if_pos (by rw [he2]; exact h)], fun h => by rw [← hFT]; unfold feedT; rw [run_end, if_neg (by rw [he2, h]; simp)]⟩)
      have HSP := Lib.hid (show selF (run ts0 0 (a ++ l)).1 an (an + ln) = evs S l by
        have h := sel_piece a l
        rw [HS.out, List.length_append, HAN.out, L0.out] at h
        exact h)
      have HSL := Lib.hid (show sumD (evs S l) ≤ 1000000000000 by have := sumD_evs HOK.out l; have := L0.out; have := HL3.out; omega)
      obtain ⟨fn, hfn⟩ : ∃ x, FT.length = x := ⟨_, rfl⟩
      have FN_ := Lib.hid hfn
      have HFNL := Lib.hid (show fn ≤ 4000 by rw [← hfn, ← hFT]; have := feedT_len2 S l; have := L0.out; have := HL3.out; omega)
      have HRN := Lib.hid (show (run ts0 0 (a ++ l)).1.length ≤ 1000000 by
        have h := evs_length ts0 (a ++ l)
        unfold evs at h
        rw [List.length_map, List.length_append, HAN.out, L0.out] at h
        have := HL3.out
        omega)
      have HRP := Lib.hid (show ∀ p ∈ (run ts0 0 (a ++ l)).1, p.2 ≤ 1000000 from fun p hp => by
        have h := (run_bounds ts0 0 (a ++ l) p hp).2
        rw [List.length_append, HAN.out, L0.out] at h
        have := HL3.out
        omega)
      clear he2 hFT hfn
      by_cases hz1 : e1 = 0
      · subst hz1
        by_cases hz2 : e2 = 0
        · subst hz2
          have HLW := Lib.hid (show (putF (evs S l)).length = fn by rw [← HWT.out.2 rfl, FN_.out])
          go_wp2_with (first
            | (at_builtin
               refine wpList_appB byteT rfl (.tmp 40) (.tmp 41) rfl (OwnB.new0 wo wo.heap.size 5 (Nat.le_refl _)) HVr.out (by first | rfl | go_simp) (by rw [L0.out]; first | rfl | go_simp) (by rw [L0.out]; have := HL3.out; simp; omega) (by simp) ?_
               intro v2 w2 o2 g2 _ a2
               rw [List.nil_append] at o2
               obtain ⟨A2, c2, hv2, r2, -⟩ := o2.shape
               rw [L0.out] at hv2
               subst hv2
               have I2 := Lib.hid o2
               have RI2 := Lib.hid r2
               have G2 := Lib.hid (grown_row (grown_alloc wo (.cells #[] 5) none) g2 (fun z hz => by simp [Value.ownBlock] at hz; omega))
               clear o2 g2 a2 r2)
            | (go_at_call 12
               refine (feed_any (R0.out.made G2.out) HOK.out (Nat.le_trans G0.out.size G2.out.size) A2 l ln c2 L0.out RI2.out (fun x hx hl => ⟨fun e => by have h1 := R0.out.lt.2; have h2 := (I2.out.lt x.block (by rw [hx]; rfl)).1; omega, fun e => by have h1 := (R0.out.vlt _ e).2.1; have h2 := (I2.out.lt x.block (by rw [hx]; rfl)).1; omega⟩) (by have := HL3.out; omega)).mono ?_
               rintro e w6 ⟨pv6, vf6, vs6, rfl, r6, o6, m6, n6, u6⟩
               rw [HFT.out] at o6
               rw [HE2.out]
               obtain ⟨A6, c6, hv6, -, -⟩ := o6.shape
               rw [FN_.out] at hv6
               subst hv6
               have O6 := Lib.hid o6
               have R6 := Lib.hid r6
               have N6 := Lib.hid (show ∀ g, pv6.ownBlock = some g → (pv.ownBlock = some g ∨ wo.heap.size ≤ g) ∧ g < w6.heap.size from fun g hg => ⟨(n6 g hg).imp id (fun h => Nat.le_trans G2.out.size h), (r6.vlt g hg).2.1⟩)
               have U6 := Lib.hid (show ∀ u ∈ vs6, ∀ g, u.ownBlock = some g → ((pv.ownBlock = some g ∨ wo.heap.size ≤ g) ∧ g < w6.heap.size) ∧ pv6.ownBlock ≠ some g from fun u hu g hg => ⟨⟨(u6 u hu g hg).1.imp id (fun h => Nat.le_trans G2.out.size h), (o6.dlt u hu g hg).2⟩, (u6 u hu g hg).2⟩)
               have G6 := Lib.hid (none_feed (grown_trans' G0.out G2.out) (R0.out.made G2.out) (Nat.le_refl _) m6)
               have AL6 := Lib.hid ((AL.out.none_ G2.out).later (R0.out.made G2.out) NE.out m6)
               have I6 := Lib.hid (I2.out.later (R0.out.made G2.out) (fun g hg e => by have h1 := (R0.out.vlt _ e).2.1; have h2 := (I2.out.lt g hg).1; omega) m6)
               have W6 := Lib.hid (show wo.heap.size ≤ w6.heap.size from Nat.le_trans G2.out.size m6.size)
               clear o6 r6 m6 n6 u6)
            | (at_builtin
               refine wpList_appB byteT rfl (.tmp 51) (.tmp 52) rfl AL6.out (HV.out.below (below_of_none G6.out)) (by first | rfl | go_simp) (by rw [L0.out]; first | rfl | go_simp) (by rw [HAN.out, L0.out]; have := HL3.out; omega) G6.out.size ?_
               intro v7 w7 o7 g7 _ a7
               obtain ⟨A7, c7, hv7, r7, -⟩ := o7.shape
               rw [List.length_append, HAN.out, L0.out] at hv7
               subst hv7
               have AL7 := Lib.hid o7
               have RA7 := Lib.hid r7
               have G7 := Lib.hid (grown_row G6.out g7 (fun z hz => (AL6.out.lt z hz).1))
               have NB7 := Lib.hid (show ∀ g, (Value.slice A7 (an + ln) c7).ownBlock = some g → pv6.ownBlock ≠ some g ∧ ¬ SpS vs6 g from fun g hg => by
                 rcases a7 with h | h
                 · have hg' : (Value.slice A4 an c4).ownBlock = some g := h ▸ hg
                   have h1 := (AL.out.lt g hg').2
                   refine ⟨fun e => ?_, fun ⟨u, hu, e⟩ => ?_⟩
                   · rcases (N6.out g e).1 with h2 | h2
                     · exact NE.out g hg' h2
                     · omega
                   · rcases (U6.out u hu g e).1.1 with h2 | h2
                     · exact NE.out g hg' h2
                     · omega
                 · rw [hg] at h
                   injection h with h
                   exact ⟨fun e => by have := (N6.out g e).2; omega, fun ⟨u, hu, e⟩ => by have := (U6.out u hu g e).1.2; omega⟩)
               have R7 := Lib.hid (R6.out.mod (Mod.of_grown g7) (fun e => AL6.out.ne_cells R6.out.2.1 (by decide) e.symm) (fun g hg e => by
                 have h1 := (AL.out.lt g e.symm).2
                 rcases (N6.out g hg).1 with h2 | h2
                 · exact NE.out g e.symm h2
                 · omega))
               have O7 := Lib.hid (O6.out.mod (Mod.of_grown g7) (fun g hg e => O6.out.ne_own AL6.out e.symm hg) (fun u hu g hg e => by
                 have h1 := (AL.out.lt g e.symm).2
                 rcases (U6.out u hu g hg).1.1 with h2 | h2
                 · exact NE.out g e.symm h2
                 · omega))
               have I7 := Lib.hid (I6.out.mod (Mod.of_grown g7) (fun g hg e => by have h1 := (AL.out.lt g e.symm).2; have h2 := (I6.out.lt g hg).1; omega))
               have W7 := Lib.hid (show w6.heap.size ≤ w7.heap.size from g7.size)
               clear o7 g7 a7 r7)
            | (go_at_call 14
               refine (read_any A7 (a ++ l) (an + ln) c7 (by rw [List.length_append, HAN.out, L0.out]) RA7.out (by have := HL3.out; omega)).mono ?_
               rintro e w8 ⟨v8, us8, rfl, o8, g8⟩
               rw [HEA.out, HE2.out]
               have O8 := Lib.hid o8
               have G8 := Lib.hid (grown_trans' G7.out g8)
               have G78 := Lib.hid g8
               have R8 := Lib.hid (R7.out.made g8)
               have P8 := Lib.hid (O7.out.none_ g8)
               have AL8 := Lib.hid (OwnB.none_ AL7.out g8)
               have i8 := OwnB.none_ I7.out g8
               have W8 := Lib.hid (Nat.le_trans W7.out g8.size)
               obtain ⟨A8, c8, e8, r8, -⟩ := i8.shape
               rw [L0.out] at e8
               injection e8 with e8 _ e9
               subst e8 e9
               have p1 : (convert 22 9 (.slice A2 ln c2)).run Try.prog w8 = .ok (.string (sb l)) w8 := convB r8 L0.out
               have p2 : (convert 22 9 (.slice V ln cv)).run Try.prog w8 = .ok (.string (sb l)) w8 := convB (HV.out.below (below_of_none G8.out)) L0.out
               clear o8 g8 i8 r8
               have TKX := Lib.hid True.intro)
            | (go_at_call 15
               refine (between_any O8.out G78.out.size HRN.out an (an + ln) (by rw [HSP.out]; exact HSL.out) HRP.out).mono ?_
               rintro e w9 ⟨v9, us9, rfl, o9, g9⟩
               rw [HSP.out] at o9
               obtain ⟨A9, c9, hv9, r9, -⟩ := o9.shape
               rw [HLW.out] at hv9
               subst hv9
               have P9 := Lib.hid r9
               have G9 := Lib.hid (grown_trans' G8.out g9)
               have R9 := Lib.hid (R8.out.made g9)
               have PF9 := Lib.hid (P8.out.none_ g9)
               have AL9 := Lib.hid (OwnB.none_ AL8.out g9)
               have W9 := Lib.hid (Nat.le_trans W8.out g9.size)
               clear o9 g9 r9 p1 p2)
            | (go_at_call 13
               obtain ⟨A10, c10, e10, r10, -⟩ := PF9.out.shape
               rw [FN_.out] at e10
               injection e10 with e10 _ e11
               subst e10 e11
               refine (same_any _ A6 A9 FT fn c6 c9 _ FN_.out r10 (by rw [HWT.out.2 (by first | rfl | trivial)]; exact P9.out) (Nat.le_refl _)).mono ?_
               rintro e w10 ⟨rfl, g10⟩
               have G10 := Lib.hid (grown_trans' G9.out g10)
               have R10 := Lib.hid (R9.out.made g10)
               have PF10 := Lib.hid (PF9.out.none_ g10)
               have AL10 := Lib.hid (OwnB.none_ AL9.out g10)
               have W10 := Lib.hid (Nat.le_trans W9.out g10.size)
               clear g10 r10))
          obtain ⟨hrow, hI⟩ := spo_of PF10.out
          have VL := Lib.hid (show vs6.length = fn by have := PF10.out.len; have := FN_.out; omega)
          have ROW := Lib.hid hrow
          have SI := Lib.hid hI
          have HA6 := Lib.hid (show ∀ g, (Value.slice A6 fn c6).ownBlock = some g → A6 = some ⟨g, 0, none⟩ from fun g hg => by
            obtain ⟨_, _, e, -, hh, -⟩ := PF10.out.shape
            injection e with e _ _
            subst e
            exact hh g hg)
          clear hrow hI
          go_loopw [85] (fun s85 wq => ∃ i : Nat, s85 = .int .i64 i ∧ i ≤ fn ∧ Mod (SpS vs6) w10 wq ∧ SpI vs6 wq) (fun s85 _ => fn - (intOf s85).toNat)
          case atStart => exact ⟨0, rfl, Nat.zero_le _, Mod.refl _ _, SI.out⟩
          case round =>
            obtain ⟨wp, hwp⟩ : ∃ wp : World, wp = wr := ⟨_, rfl⟩
            subst hwp
            obtain ⟨i, rfl, hi3, hM3, hI3⟩ := hrel
            by_cases hil : i < fn
            · obtain ⟨u, hu⟩ : ∃ u, vs6[i]? = some u := ⟨_, List.getElem?_eq_getElem (by have := VL.out; omega)⟩
              obtain ⟨gr, hA, hcell, hns, V9, n9, c9_, rfl, hnil, hn9⟩ := ROW.out i u hu
              obtain rfl := HA6.out gr hA
              have hil2 : (i : Int) < (fn : Int) := by omega
              have M3 := Lib.hid hM3
              have I3 := Lib.hid hI3
              have QC := Lib.hid hcell
              have HNS := Lib.hid hns
              have HU := Lib.hid (List.mem_of_getElem? hu)
              have HNI := Lib.hid hnil
              have HIL := Lib.hid (show i < fn ∧ fn ≤ 4000 from ⟨hil, HFNL.out⟩)
              have hwi : IntKind.i64.wrap ((i : Int) + 1) = (i : Int) + 1 := by have := HIL.out; simp [IntKind.wrap, IntKind.bits, IntKind.signed]; omega
              have HGR := Lib.hid (World.block_lt_of_cell? w10 _ QC.out)
              have q3 : wp.cell? ⟨gr, i * 4 + 3, none⟩ = some (.slice V9 n9 c9_) := (World.cell?_of_block (M3.out.block gr HGR.out HNS.out)).trans QC.out
              clear hM3 hI3 hcell hns hu hnil hA
              go_wp2
              clear q3
              go_loopw [94] (fun s94 wq => ∃ j : Nat, s94 = .int .i64 j ∧ j ≤ n9 ∧ Mod (SpS vs6) w10 wq ∧ SpI vs6 wq) (fun s94 _ => n9 - (intOf s94).toNat)
              case atStart => exact ⟨0, rfl, Nat.zero_le _, M3.out, I3.out⟩
              case round =>
                obtain ⟨j, rfl, hj4, hM4, hI4⟩ := hrel
                by_cases hjl : j < n9
                · obtain ⟨g9_, hg9⟩ : ∃ g, (Value.slice V9 n9 c9_).ownBlock = some g := by
                    cases V9 with
                    | none => have := HNI.out rfl; omega
                    | some a => exact ⟨a.block, rfl⟩
                  obtain ⟨n9', c9', cs, h1, h2, h3, h4⟩ := hI4 _ HU.out g9_ hg9
                  simp only [Value.slice.injEq] at h1
                  obtain ⟨rfl, rfl, rfl⟩ := h1
                  have M4 := Lib.hid hM4
                  have I4 := Lib.hid hI4
                  have C4 := Lib.hid h3
                  have CL := Lib.hid (show j < cs.length by omega)
                  have hjl2 : (j : Int) < (n9 : Int) := by omega
                  have q4 : wr.cell? ⟨gr, i * 4 + 3, none⟩ = some (.slice (some ⟨g9_, 0, none⟩) n9 c9_) := (World.cell?_of_block (hM4.block gr HGR.out HNS.out)).trans QC.out
                  have HG9 := Lib.hid (show SpS vs6 g9_ from ⟨_, HU.out, hg9⟩)
                  have HJJ := Lib.hid hjl
                  clear hM4 hI4 h2 h3 h4 hg9
                  go_wp2_with (first
                    | (refine wpList_setC (off := j) sz8 rfl (.tmp 103) (.const (.int .u8 238)) rfl .u8 238 C4.out CL.out (by first | rfl | go_simp) rfl ?_
                       intro w17 h17 g17
                       have C17 := Lib.hid h17
                       have G17 := Lib.hid g17
                       clear h17 g17 q4))
                  go_roundw
                  case rel => exact ⟨j + 1, by go_num, by have := HJJ.out; omega, M4.out.grown G17.out (fun z hz _ => by injection hz with hz; subst hz; exact HG9.out), I4.out.set C4.out G17.out C17.out⟩
                  case measure => have := HJJ.out; simp [intOf]; omega
                · have hjn : n9 = j := by omega
                  subst hjn
                  have M4 := Lib.hid hM4
                  have I4 := Lib.hid hI4
                  clear hM4 hI4
                  go_wp2
                  go_roundw
                  case rel => exact ⟨i + 1, by first | rfl | go_num, by have := HIL.out; omega, M4.out, I4.out⟩
                  case measure => have := HIL.out; simp [intOf]; omega
            · have hin : fn = i := by omega
              subst hin
              have MI := Lib.hid hM3
              clear hM3 hI3 hil
              have hwk : IntKind.i64.wrap ((k : Int) + 1) = (k : Int) + 1 := by have := HKM.out; have := HM0.out; simp [IntKind.wrap, IntKind.bits, IntKind.signed]; omega
              have E2T := Lib.hid (show (endT ts0 (a ++ l)).err = 0 by rw [HEA.out, HE2.out])
              go_wp2
              go_roundw
              case rel =>
                refine ⟨k + 1, a ++ l, pv6, by first | rfl | go_num, by have := HKM.out; omega, AL10.out.mod MI.out (fun g hg e => (NB7.out g hg).2 e), by rw [List.length_append, HAN.out, L0.out]; have := HL3.out; omega, by rw [E2T.out], ?_, fun g hg => (NB7.out g hg).1, ?_⟩
                · rw [HEA.out]
                  refine R10.out.mod MI.out (fun ⟨u, hu, e⟩ => ?_) (fun g hg ⟨u, hu, e⟩ => (U6.out u hu g e).2 hg)
                  obtain ⟨x, hx⟩ := List.mem_iff_getElem?.1 hu
                  have hlt2 := (List.getElem?_eq_some_iff.1 hx).1
                  exact (PF10.out.dat x _ u (List.getElem?_eq_getElem (by have := PF10.out.len; omega)) hx).ne_cells R10.out.2.1 (by decide) e
                · exact ⟨MI.out.os.trans G10.out.os, MI.out.tape.trans G10.out.tape, MI.out.output.trans G10.out.output, Nat.le_trans G10.out.size MI.out.size, fun z hz hn => (MI.out.block z (Nat.lt_of_lt_of_le hz G10.out.size) (fun ⟨u, hu, e⟩ => by
                    rcases (U6.out u hu z e).1.1 with h2 | h2
                    · have := (R0.out.vlt z h2).1; omega
                    · have := G0.out.size; omega)).trans (G10.out.block z hz hn)⟩
              case measure => have := HKM.out; simp [intOf]; omega
        · have HNZ := Lib.hid hz2
          have hne2 : (e2 == 0) = false := by rw [beq_eq_false_iff_ne]; exact hz2
          have HF0 := Lib.hid (show fn = 0 by rw [← FN_.out, HWT.out.1 hz2]; rfl)
          go_wp2_with (first
            | (at_builtin
               refine wpList_appB byteT rfl (.tmp 40) (.tmp 41) rfl (OwnB.new0 wo wo.heap.size 5 (Nat.le_refl _)) HVr.out (by first | rfl | go_simp) (by rw [L0.out]; first | rfl | go_simp) (by rw [L0.out]; have := HL3.out; simp; omega) (by simp) ?_
               intro v2 w2 o2 g2 _ a2
               rw [List.nil_append] at o2
               obtain ⟨A2, c2, hv2, r2, -⟩ := o2.shape
               rw [L0.out] at hv2
               subst hv2
               have I2 := Lib.hid o2
               have RI2 := Lib.hid r2
               have G2 := Lib.hid (grown_row (grown_alloc wo (.cells #[] 5) none) g2 (fun z hz => by simp [Value.ownBlock] at hz; omega))
               clear o2 g2 a2 r2)
            | (go_at_call 12
               refine (feed_any (R0.out.made G2.out) HOK.out (Nat.le_trans G0.out.size G2.out.size) A2 l ln c2 L0.out RI2.out (fun x hx hl => ⟨fun e => by have h1 := R0.out.lt.2; have h2 := (I2.out.lt x.block (by rw [hx]; rfl)).1; omega, fun e => by have h1 := (R0.out.vlt _ e).2.1; have h2 := (I2.out.lt x.block (by rw [hx]; rfl)).1; omega⟩) (by have := HL3.out; omega)).mono ?_
               rintro e w6 ⟨pv6, vf6, vs6, rfl, r6, o6, m6, n6, u6⟩
               rw [HFT.out] at o6
               rw [HE2.out]
               obtain ⟨A6, c6, hv6, -, -⟩ := o6.shape
               rw [FN_.out] at hv6
               subst hv6
               have O6 := Lib.hid o6
               have R6 := Lib.hid r6
               have N6 := Lib.hid (show ∀ g, pv6.ownBlock = some g → (pv.ownBlock = some g ∨ wo.heap.size ≤ g) ∧ g < w6.heap.size from fun g hg => ⟨(n6 g hg).imp id (fun h => Nat.le_trans G2.out.size h), (r6.vlt g hg).2.1⟩)
               have U6 := Lib.hid (show ∀ u ∈ vs6, ∀ g, u.ownBlock = some g → ((pv.ownBlock = some g ∨ wo.heap.size ≤ g) ∧ g < w6.heap.size) ∧ pv6.ownBlock ≠ some g from fun u hu g hg => ⟨⟨(u6 u hu g hg).1.imp id (fun h => Nat.le_trans G2.out.size h), (o6.dlt u hu g hg).2⟩, (u6 u hu g hg).2⟩)
               have G6 := Lib.hid (none_feed (grown_trans' G0.out G2.out) (R0.out.made G2.out) (Nat.le_refl _) m6)
               have AL6 := Lib.hid ((AL.out.none_ G2.out).later (R0.out.made G2.out) NE.out m6)
               have I6 := Lib.hid (I2.out.later (R0.out.made G2.out) (fun g hg e => by have h1 := (R0.out.vlt _ e).2.1; have h2 := (I2.out.lt g hg).1; omega) m6)
               have W6 := Lib.hid (show wo.heap.size ≤ w6.heap.size from Nat.le_trans G2.out.size m6.size)
               clear o6 r6 m6 n6 u6)
            | (at_builtin
               refine wpList_appB byteT rfl (.tmp 51) (.tmp 52) rfl AL6.out (HV.out.below (below_of_none G6.out)) (by first | rfl | go_simp) (by rw [L0.out]; first | rfl | go_simp) (by rw [HAN.out, L0.out]; have := HL3.out; omega) G6.out.size ?_
               intro v7 w7 o7 g7 _ a7
               obtain ⟨A7, c7, hv7, r7, -⟩ := o7.shape
               rw [List.length_append, HAN.out, L0.out] at hv7
               subst hv7
               have AL7 := Lib.hid o7
               have RA7 := Lib.hid r7
               have G7 := Lib.hid (grown_row G6.out g7 (fun z hz => (AL6.out.lt z hz).1))
               have NB7 := Lib.hid (show ∀ g, (Value.slice A7 (an + ln) c7).ownBlock = some g → pv6.ownBlock ≠ some g ∧ ¬ SpS vs6 g from fun g hg => by
                 rcases a7 with h | h
                 · have hg' : (Value.slice A4 an c4).ownBlock = some g := h ▸ hg
                   have h1 := (AL.out.lt g hg').2
                   refine ⟨fun e => ?_, fun ⟨u, hu, e⟩ => ?_⟩
                   · rcases (N6.out g e).1 with h2 | h2
                     · exact NE.out g hg' h2
                     · omega
                   · rcases (U6.out u hu g e).1.1 with h2 | h2
                     · exact NE.out g hg' h2
                     · omega
                 · rw [hg] at h
                   injection h with h
                   exact ⟨fun e => by have := (N6.out g e).2; omega, fun ⟨u, hu, e⟩ => by have := (U6.out u hu g e).1.2; omega⟩)
               have R7 := Lib.hid (R6.out.mod (Mod.of_grown g7) (fun e => AL6.out.ne_cells R6.out.2.1 (by decide) e.symm) (fun g hg e => by
                 have h1 := (AL.out.lt g e.symm).2
                 rcases (N6.out g hg).1 with h2 | h2
                 · exact NE.out g e.symm h2
                 · omega))
               have O7 := Lib.hid (O6.out.mod (Mod.of_grown g7) (fun g hg e => O6.out.ne_own AL6.out e.symm hg) (fun u hu g hg e => by
                 have h1 := (AL.out.lt g e.symm).2
                 rcases (U6.out u hu g hg).1.1 with h2 | h2
                 · exact NE.out g e.symm h2
                 · omega))
               have I7 := Lib.hid (I6.out.mod (Mod.of_grown g7) (fun g hg e => by have h1 := (AL.out.lt g e.symm).2; have h2 := (I6.out.lt g hg).1; omega))
               have W7 := Lib.hid (show w6.heap.size ≤ w7.heap.size from g7.size)
               clear o7 g7 a7 r7)
            | (go_at_call 14
               refine (read_any A7 (a ++ l) (an + ln) c7 (by rw [List.length_append, HAN.out, L0.out]) RA7.out (by have := HL3.out; omega)).mono ?_
               rintro e w8 ⟨v8, us8, rfl, o8, g8⟩
               rw [HEA.out, HE2.out]
               have O8 := Lib.hid o8
               have G8 := Lib.hid (grown_trans' G7.out g8)
               have G78 := Lib.hid g8
               have R8 := Lib.hid (R7.out.made g8)
               have P8 := Lib.hid (O7.out.none_ g8)
               have AL8 := Lib.hid (OwnB.none_ AL7.out g8)
               have i8 := OwnB.none_ I7.out g8
               have W8 := Lib.hid (Nat.le_trans W7.out g8.size)
               obtain ⟨A8, c8, e8, r8, -⟩ := i8.shape
               rw [L0.out] at e8
               injection e8 with e8 _ e9
               subst e8 e9
               have p1 : (convert 22 9 (.slice A2 ln c2)).run Try.prog w8 = .ok (.string (sb l)) w8 := convB r8 L0.out
               have p2 : (convert 22 9 (.slice V ln cv)).run Try.prog w8 = .ok (.string (sb l)) w8 := convB (HV.out.below (below_of_none G8.out)) L0.out
               clear o8 g8 i8 r8
               have TKX := Lib.hid True.intro)
            | (go_at_call 15
               refine (between_any O8.out G78.out.size HRN.out an (an + ln) (by rw [HSP.out]; exact HSL.out) HRP.out).mono ?_
               rintro e w9 ⟨v9, us9, rfl, o9, g9⟩
               rw [HSP.out] at o9
               obtain ⟨A9, c9, hv9, r9, -⟩ := o9.shape
               subst hv9
               have P9 := Lib.hid r9
               have G9 := Lib.hid (grown_trans' G8.out g9)
               have R9 := Lib.hid (R8.out.made g9)
               have PF9 := Lib.hid (P8.out.none_ g9)
               have AL9 := Lib.hid (OwnB.none_ AL8.out g9)
               have W9 := Lib.hid (Nat.le_trans W8.out g9.size)
               clear o9 g9 r9 p1 p2)
            | (go_at_call 13
               obtain ⟨A10, c10, e10, r10, -⟩ := PF9.out.shape
               rw [FN_.out] at e10
               injection e10 with e10 _ e11
               subst e10 e11
               refine (same_nil _ A6 FT fn c6 FN_.out (HWT.out.1 HNZ.out) r10).mono ?_
               rintro e w10 ⟨rfl, g10⟩
               have G10 := Lib.hid (grown_trans' G9.out g10)
               have R10 := Lib.hid (R9.out.made g10)
               have PF10 := Lib.hid (PF9.out.none_ g10)
               have AL10 := Lib.hid (OwnB.none_ AL9.out g10)
               have W10 := Lib.hid (Nat.le_trans W9.out g10.size)
               clear g10 r10))
          obtain ⟨hrow, hI⟩ := spo_of PF10.out
          have VL := Lib.hid (show vs6.length = fn by have := PF10.out.len; have := FN_.out; omega)
          have ROW := Lib.hid hrow
          have SI := Lib.hid hI
          have HA6 := Lib.hid (show ∀ g, (Value.slice A6 fn c6).ownBlock = some g → A6 = some ⟨g, 0, none⟩ from fun g hg => by
            obtain ⟨_, _, e, -, hh, -⟩ := PF10.out.shape
            injection e with e _ _
            subst e
            exact hh g hg)
          clear hrow hI
          go_loopw [85] (fun s85 wq => ∃ i : Nat, s85 = .int .i64 i ∧ i ≤ fn ∧ Mod (SpS vs6) w10 wq ∧ SpI vs6 wq) (fun s85 _ => fn - (intOf s85).toNat)
          case atStart => exact ⟨0, rfl, Nat.zero_le _, Mod.refl _ _, SI.out⟩
          case round =>
            obtain ⟨wp, hwp⟩ : ∃ wp : World, wp = wr := ⟨_, rfl⟩
            subst hwp
            obtain ⟨i, rfl, hi3, hM3, hI3⟩ := hrel
            by_cases hil : i < fn
            · obtain ⟨u, hu⟩ : ∃ u, vs6[i]? = some u := ⟨_, List.getElem?_eq_getElem (by have := VL.out; omega)⟩
              obtain ⟨gr, hA, hcell, hns, V9, n9, c9_, rfl, hnil, hn9⟩ := ROW.out i u hu
              obtain rfl := HA6.out gr hA
              have hil2 : (i : Int) < (fn : Int) := by omega
              have M3 := Lib.hid hM3
              have I3 := Lib.hid hI3
              have QC := Lib.hid hcell
              have HNS := Lib.hid hns
              have HU := Lib.hid (List.mem_of_getElem? hu)
              have HNI := Lib.hid hnil
              have HIL := Lib.hid (show i < fn ∧ fn ≤ 4000 from ⟨hil, HFNL.out⟩)
              have hwi : IntKind.i64.wrap ((i : Int) + 1) = (i : Int) + 1 := by have := HIL.out; simp [IntKind.wrap, IntKind.bits, IntKind.signed]; omega
              have HGR := Lib.hid (World.block_lt_of_cell? w10 _ QC.out)
              have q3 : wp.cell? ⟨gr, i * 4 + 3, none⟩ = some (.slice V9 n9 c9_) := (World.cell?_of_block (M3.out.block gr HGR.out HNS.out)).trans QC.out
              clear hM3 hI3 hcell hns hu hnil hA
              go_wp2
              clear q3
              go_loopw [94] (fun s94 wq => ∃ j : Nat, s94 = .int .i64 j ∧ j ≤ n9 ∧ Mod (SpS vs6) w10 wq ∧ SpI vs6 wq) (fun s94 _ => n9 - (intOf s94).toNat)
              case atStart => exact ⟨0, rfl, Nat.zero_le _, M3.out, I3.out⟩
              case round =>
                obtain ⟨j, rfl, hj4, hM4, hI4⟩ := hrel
                by_cases hjl : j < n9
                · obtain ⟨g9_, hg9⟩ : ∃ g, (Value.slice V9 n9 c9_).ownBlock = some g := by
                    cases V9 with
                    | none => have := HNI.out rfl; omega
                    | some a => exact ⟨a.block, rfl⟩
                  obtain ⟨n9', c9', cs, h1, h2, h3, h4⟩ := hI4 _ HU.out g9_ hg9
                  simp only [Value.slice.injEq] at h1
                  obtain ⟨rfl, rfl, rfl⟩ := h1
                  have M4 := Lib.hid hM4
                  have I4 := Lib.hid hI4
                  have C4 := Lib.hid h3
                  have CL := Lib.hid (show j < cs.length by omega)
                  have hjl2 : (j : Int) < (n9 : Int) := by omega
                  have q4 : wr.cell? ⟨gr, i * 4 + 3, none⟩ = some (.slice (some ⟨g9_, 0, none⟩) n9 c9_) := (World.cell?_of_block (hM4.block gr HGR.out HNS.out)).trans QC.out
                  have HG9 := Lib.hid (show SpS vs6 g9_ from ⟨_, HU.out, hg9⟩)
                  have HJJ := Lib.hid hjl
                  clear hM4 hI4 h2 h3 h4 hg9
                  go_wp2_with (first
                    | (refine wpList_setC (off := j) sz8 rfl (.tmp 103) (.const (.int .u8 238)) rfl .u8 238 C4.out CL.out (by first | rfl | go_simp) rfl ?_
                       intro w17 h17 g17
                       have C17 := Lib.hid h17
                       have G17 := Lib.hid g17
                       clear h17 g17 q4))
                  go_roundw
                  case rel => exact ⟨j + 1, by go_num, by have := HJJ.out; omega, M4.out.grown G17.out (fun z hz _ => by injection hz with hz; subst hz; exact HG9.out), I4.out.set C4.out G17.out C17.out⟩
                  case measure => have := HJJ.out; simp [intOf]; omega
                · have hjn : n9 = j := by omega
                  subst hjn
                  have M4 := Lib.hid hM4
                  have I4 := Lib.hid hI4
                  clear hM4 hI4
                  go_wp2
                  go_roundw
                  case rel => exact ⟨i + 1, by first | rfl | go_num, by have := HIL.out; omega, M4.out, I4.out⟩
                  case measure => have := HIL.out; simp [intOf]; omega
            · have hin : fn = i := by omega
              subst hin
              have MI := Lib.hid hM3
              clear hM3 hI3 hil
              have hwk : IntKind.i64.wrap ((k : Int) + 1) = (k : Int) + 1 := by have := HKM.out; have := HM0.out; simp [IntKind.wrap, IntKind.bits, IntKind.signed]; omega
              have E2T := Lib.hid (show (endT ts0 (a ++ l)).err = e2 by rw [HEA.out, HE2.out])
              go_wp2
              go_roundw
              case rel =>
                refine ⟨k + 1, a ++ l, pv6, by first | rfl | go_num, by have := HKM.out; omega, AL10.out.mod MI.out (fun g hg e => (NB7.out g hg).2 e), by rw [List.length_append, HAN.out, L0.out]; have := HL3.out; omega, by rw [E2T.out], ?_, fun g hg => (NB7.out g hg).1, ?_⟩
                · rw [HEA.out]
                  refine R10.out.mod MI.out (fun ⟨u, hu, e⟩ => ?_) (fun g hg ⟨u, hu, e⟩ => (U6.out u hu g e).2 hg)
                  obtain ⟨x, hx⟩ := List.mem_iff_getElem?.1 hu
                  have hlt2 := (List.getElem?_eq_some_iff.1 hx).1
                  exact (PF10.out.dat x _ u (List.getElem?_eq_getElem (by have := PF10.out.len; omega)) hx).ne_cells R10.out.2.1 (by decide) e
                · exact ⟨MI.out.os.trans G10.out.os, MI.out.tape.trans G10.out.tape, MI.out.output.trans G10.out.output, Nat.le_trans G10.out.size MI.out.size, fun z hz hn => (MI.out.block z (Nat.lt_of_lt_of_le hz G10.out.size) (fun ⟨u, hu, e⟩ => by
                    rcases (U6.out u hu z e).1.1 with h2 | h2
                    · have := (R0.out.vlt z h2).1; omega
                    · have := G0.out.size; omega)).trans (G10.out.block z hz hn)⟩
              case measure => have := HKM.out; simp [intOf]; omega
      · have HNZ := Lib.hid (show e2 ≠ 0 by rw [HSE.out hz1]; exact hz1)
        obtain rfl : e2 = e1 := HSE.out hz1
        have hne2 : (e2 == 0) = false := by rw [beq_eq_false_iff_ne]; exact hz1
        go_wp2_with (first
          | (at_builtin
             refine wpList_appB byteT rfl (.tmp 40) (.tmp 41) rfl (OwnB.new0 wo wo.heap.size 5 (Nat.le_refl _)) HVr.out (by first | rfl | go_simp) (by rw [L0.out]; first | rfl | go_simp) (by rw [L0.out]; have := HL3.out; simp; omega) (by simp) ?_
             intro v2 w2 o2 g2 _ a2
             rw [List.nil_append] at o2
             obtain ⟨A2, c2, hv2, r2, -⟩ := o2.shape
             rw [L0.out] at hv2
             subst hv2
             have I2 := Lib.hid o2
             have RI2 := Lib.hid r2
             have G2 := Lib.hid (grown_row (grown_alloc wo (.cells #[] 5) none) g2 (fun z hz => by simp [Value.ownBlock] at hz; omega))
             clear o2 g2 a2 r2)
          | (go_at_call 12
             refine (feed_any (R0.out.made G2.out) HOK.out (Nat.le_trans G0.out.size G2.out.size) A2 l ln c2 L0.out RI2.out (fun x hx hl => ⟨fun e => by have h1 := R0.out.lt.2; have h2 := (I2.out.lt x.block (by rw [hx]; rfl)).1; omega, fun e => by have h1 := (R0.out.vlt _ e).2.1; have h2 := (I2.out.lt x.block (by rw [hx]; rfl)).1; omega⟩) (by have := HL3.out; omega)).mono ?_
             rintro e w6 ⟨pv6, vf6, vs6, rfl, r6, o6, m6, n6, u6⟩
             rw [HFT.out] at o6
             rw [HE2.out]
             obtain ⟨A6, c6, hv6, -, -⟩ := o6.shape
             rw [FN_.out] at hv6
             subst hv6
             have O6 := Lib.hid o6
             have R6 := Lib.hid r6
             have N6 := Lib.hid (show ∀ g, pv6.ownBlock = some g → (pv.ownBlock = some g ∨ wo.heap.size ≤ g) ∧ g < w6.heap.size from fun g hg => ⟨(n6 g hg).imp id (fun h => Nat.le_trans G2.out.size h), (r6.vlt g hg).2.1⟩)
             have U6 := Lib.hid (show ∀ u ∈ vs6, ∀ g, u.ownBlock = some g → ((pv.ownBlock = some g ∨ wo.heap.size ≤ g) ∧ g < w6.heap.size) ∧ pv6.ownBlock ≠ some g from fun u hu g hg => ⟨⟨(u6 u hu g hg).1.imp id (fun h => Nat.le_trans G2.out.size h), (o6.dlt u hu g hg).2⟩, (u6 u hu g hg).2⟩)
             have G6 := Lib.hid (none_feed (grown_trans' G0.out G2.out) (R0.out.made G2.out) (Nat.le_refl _) m6)
             have AL6 := Lib.hid ((AL.out.none_ G2.out).later (R0.out.made G2.out) NE.out m6)
             have I6 := Lib.hid (I2.out.later (R0.out.made G2.out) (fun g hg e => by have h1 := (R0.out.vlt _ e).2.1; have h2 := (I2.out.lt g hg).1; omega) m6)
             have W6 := Lib.hid (show wo.heap.size ≤ w6.heap.size from Nat.le_trans G2.out.size m6.size)
             clear o6 r6 m6 n6 u6)
          | (at_builtin
             refine wpList_appB byteT rfl (.tmp 51) (.tmp 52) rfl AL6.out (HV.out.below (below_of_none G6.out)) (by first | rfl | go_simp) (by rw [L0.out]; first | rfl | go_simp) (by rw [HAN.out, L0.out]; have := HL3.out; omega) G6.out.size ?_
             intro v7 w7 o7 g7 _ a7
             obtain ⟨A7, c7, hv7, r7, -⟩ := o7.shape
             rw [List.length_append, HAN.out, L0.out] at hv7
             subst hv7
             have AL7 := Lib.hid o7
             have RA7 := Lib.hid r7
             have G7 := Lib.hid (grown_row G6.out g7 (fun z hz => (AL6.out.lt z hz).1))
             have NB7 := Lib.hid (show ∀ g, (Value.slice A7 (an + ln) c7).ownBlock = some g → pv6.ownBlock ≠ some g ∧ ¬ SpS vs6 g from fun g hg => by
               rcases a7 with h | h
               · have hg' : (Value.slice A4 an c4).ownBlock = some g := h ▸ hg
                 have h1 := (AL.out.lt g hg').2
                 refine ⟨fun e => ?_, fun ⟨u, hu, e⟩ => ?_⟩
                 · rcases (N6.out g e).1 with h2 | h2
                   · exact NE.out g hg' h2
                   · omega
                 · rcases (U6.out u hu g e).1.1 with h2 | h2
                   · exact NE.out g hg' h2
                   · omega
               · rw [hg] at h
                 injection h with h
                 exact ⟨fun e => by have := (N6.out g e).2; omega, fun ⟨u, hu, e⟩ => by have := (U6.out u hu g e).1.2; omega⟩)
             have R7 := Lib.hid (R6.out.mod (Mod.of_grown g7) (fun e => AL6.out.ne_cells R6.out.2.1 (by decide) e.symm) (fun g hg e => by
               have h1 := (AL.out.lt g e.symm).2
               rcases (N6.out g hg).1 with h2 | h2
               · exact NE.out g e.symm h2
               · omega))
             have O7 := Lib.hid (O6.out.mod (Mod.of_grown g7) (fun g hg e => O6.out.ne_own AL6.out e.symm hg) (fun u hu g hg e => by
               have h1 := (AL.out.lt g e.symm).2
               rcases (U6.out u hu g hg).1.1 with h2 | h2
               · exact NE.out g e.symm h2
               · omega))
             have I7 := Lib.hid (I6.out.mod (Mod.of_grown g7) (fun g hg e => by have h1 := (AL.out.lt g e.symm).2; have h2 := (I6.out.lt g hg).1; omega))
             have W7 := Lib.hid (show w6.heap.size ≤ w7.heap.size from g7.size)
             clear o7 g7 a7 r7)
          | (go_at_call 14
             refine (read_any A7 (a ++ l) (an + ln) c7 (by rw [List.length_append, HAN.out, L0.out]) RA7.out (by have := HL3.out; omega)).mono ?_
             rintro e w8 ⟨v8, us8, rfl, o8, g8⟩
             rw [HEA.out, HE2.out]
             have O8 := Lib.hid o8
             have G8 := Lib.hid (grown_trans' G7.out g8)
             have G78 := Lib.hid g8
             have R8 := Lib.hid (R7.out.made g8)
             have P8 := Lib.hid (O7.out.none_ g8)
             have AL8 := Lib.hid (OwnB.none_ AL7.out g8)
             have i8 := OwnB.none_ I7.out g8
             have W8 := Lib.hid (Nat.le_trans W7.out g8.size)
             obtain ⟨A8, c8, e8, r8, -⟩ := i8.shape
             rw [L0.out] at e8
             injection e8 with e8 _ e9
             subst e8 e9
             have p1 : (convert 22 9 (.slice A2 ln c2)).run Try.prog w8 = .ok (.string (sb l)) w8 := convB r8 L0.out
             have p2 : (convert 22 9 (.slice V ln cv)).run Try.prog w8 = .ok (.string (sb l)) w8 := convB (HV.out.below (below_of_none G8.out)) L0.out
             clear o8 g8 i8 r8
             have TKX := Lib.hid True.intro)
          | (go_at_call 15
             refine (between_any O8.out G78.out.size HRN.out an (an + ln) (by rw [HSP.out]; exact HSL.out) HRP.out).mono ?_
             rintro e w9 ⟨v9, us9, rfl, o9, g9⟩
             rw [HSP.out] at o9
             obtain ⟨A9, c9, hv9, r9, -⟩ := o9.shape
             subst hv9
             have P9 := Lib.hid r9
             have G9 := Lib.hid (grown_trans' G8.out g9)
             have R9 := Lib.hid (R8.out.made g9)
             have PF9 := Lib.hid (P8.out.none_ g9)
             have AL9 := Lib.hid (OwnB.none_ AL8.out g9)
             have W9 := Lib.hid (Nat.le_trans W8.out g9.size)
             clear o9 g9 r9 p1 p2)
          | (go_at_call 13
             obtain ⟨A10, c10, e10, r10, -⟩ := PF9.out.shape
             rw [FN_.out] at e10
             injection e10 with e10 _ e11
             subst e10 e11
             refine (same_nil _ A6 FT fn c6 FN_.out (HWT.out.1 HNZ.out) r10).mono ?_
             rintro e w10 ⟨rfl, g10⟩
             have G10 := Lib.hid (grown_trans' G9.out g10)
             have R10 := Lib.hid (R9.out.made g10)
             have PF10 := Lib.hid (PF9.out.none_ g10)
             have AL10 := Lib.hid (OwnB.none_ AL9.out g10)
             have W10 := Lib.hid (Nat.le_trans W9.out g10.size)
             clear g10 r10))
        obtain ⟨hrow, hI⟩ := spo_of PF10.out
        have VL := Lib.hid (show vs6.length = fn by have := PF10.out.len; have := FN_.out; omega)
        have ROW := Lib.hid hrow
        have SI := Lib.hid hI
        have HA6 := Lib.hid (show ∀ g, (Value.slice A6 fn c6).ownBlock = some g → A6 = some ⟨g, 0, none⟩ from fun g hg => by
          obtain ⟨_, _, e, -, hh, -⟩ := PF10.out.shape
          injection e with e _ _
          subst e
          exact hh g hg)
        clear hrow hI
        go_loopw [85] (fun s85 wq => ∃ i : Nat, s85 = .int .i64 i ∧ i ≤ fn ∧ Mod (SpS vs6) w10 wq ∧ SpI vs6 wq) (fun s85 _ => fn - (intOf s85).toNat)
        case atStart => exact ⟨0, rfl, Nat.zero_le _, Mod.refl _ _, SI.out⟩
        case round =>
          obtain ⟨wp, hwp⟩ : ∃ wp : World, wp = wr := ⟨_, rfl⟩
          subst hwp
          obtain ⟨i, rfl, hi3, hM3, hI3⟩ := hrel
          by_cases hil : i < fn
          · obtain ⟨u, hu⟩ : ∃ u, vs6[i]? = some u := ⟨_, List.getElem?_eq_getElem (by have := VL.out; omega)⟩
            obtain ⟨gr, hA, hcell, hns, V9, n9, c9_, rfl, hnil, hn9⟩ := ROW.out i u hu
            obtain rfl := HA6.out gr hA
            have hil2 : (i : Int) < (fn : Int) := by omega
            have M3 := Lib.hid hM3
            have I3 := Lib.hid hI3
            have QC := Lib.hid hcell
            have HNS := Lib.hid hns
            have HU := Lib.hid (List.mem_of_getElem? hu)
            have HNI := Lib.hid hnil
            have HIL := Lib.hid (show i < fn ∧ fn ≤ 4000 from ⟨hil, HFNL.out⟩)
            have hwi : IntKind.i64.wrap ((i : Int) + 1) = (i : Int) + 1 := by have := HIL.out; simp [IntKind.wrap, IntKind.bits, IntKind.signed]; omega
            have HGR := Lib.hid (World.block_lt_of_cell? w10 _ QC.out)
            have q3 : wp.cell? ⟨gr, i * 4 + 3, none⟩ = some (.slice V9 n9 c9_) := (World.cell?_of_block (M3.out.block gr HGR.out HNS.out)).trans QC.out
            clear hM3 hI3 hcell hns hu hnil hA
            go_wp2
            clear q3
            go_loopw [94] (fun s94 wq => ∃ j : Nat, s94 = .int .i64 j ∧ j ≤ n9 ∧ Mod (SpS vs6) w10 wq ∧ SpI vs6 wq) (fun s94 _ => n9 - (intOf s94).toNat)
            case atStart => exact ⟨0, rfl, Nat.zero_le _, M3.out, I3.out⟩
            case round =>
              obtain ⟨j, rfl, hj4, hM4, hI4⟩ := hrel
              by_cases hjl : j < n9
              · obtain ⟨g9_, hg9⟩ : ∃ g, (Value.slice V9 n9 c9_).ownBlock = some g := by
                  cases V9 with
                  | none => have := HNI.out rfl; omega
                  | some a => exact ⟨a.block, rfl⟩
                obtain ⟨n9', c9', cs, h1, h2, h3, h4⟩ := hI4 _ HU.out g9_ hg9
                simp only [Value.slice.injEq] at h1
                obtain ⟨rfl, rfl, rfl⟩ := h1
                have M4 := Lib.hid hM4
                have I4 := Lib.hid hI4
                have C4 := Lib.hid h3
                have CL := Lib.hid (show j < cs.length by omega)
                have hjl2 : (j : Int) < (n9 : Int) := by omega
                have q4 : wr.cell? ⟨gr, i * 4 + 3, none⟩ = some (.slice (some ⟨g9_, 0, none⟩) n9 c9_) := (World.cell?_of_block (hM4.block gr HGR.out HNS.out)).trans QC.out
                have HG9 := Lib.hid (show SpS vs6 g9_ from ⟨_, HU.out, hg9⟩)
                have HJJ := Lib.hid hjl
                clear hM4 hI4 h2 h3 h4 hg9
                go_wp2_with (first
                  | (refine wpList_setC (off := j) sz8 rfl (.tmp 103) (.const (.int .u8 238)) rfl .u8 238 C4.out CL.out (by first | rfl | go_simp) rfl ?_
                     intro w17 h17 g17
                     have C17 := Lib.hid h17
                     have G17 := Lib.hid g17
                     clear h17 g17 q4))
                go_roundw
                case rel => exact ⟨j + 1, by go_num, by have := HJJ.out; omega, M4.out.grown G17.out (fun z hz _ => by injection hz with hz; subst hz; exact HG9.out), I4.out.set C4.out G17.out C17.out⟩
                case measure => have := HJJ.out; simp [intOf]; omega
              · have hjn : n9 = j := by omega
                subst hjn
                have M4 := Lib.hid hM4
                have I4 := Lib.hid hI4
                clear hM4 hI4
                go_wp2
                go_roundw
                case rel => exact ⟨i + 1, by first | rfl | go_num, by have := HIL.out; omega, M4.out, I4.out⟩
                case measure => have := HIL.out; simp [intOf]; omega
          · have hin : fn = i := by omega
            subst hin
            have MI := Lib.hid hM3
            clear hM3 hI3 hil
            have hwk : IntKind.i64.wrap ((k : Int) + 1) = (k : Int) + 1 := by have := HKM.out; have := HM0.out; simp [IntKind.wrap, IntKind.bits, IntKind.signed]; omega
            have E2T := Lib.hid (show (endT ts0 (a ++ l)).err = e2 by rw [HEA.out, HE2.out])
            go_wp2
            go_roundw
            case rel =>
              refine ⟨k + 1, a ++ l, pv6, by first | rfl | go_num, by have := HKM.out; omega, AL10.out.mod MI.out (fun g hg e => (NB7.out g hg).2 e), by rw [List.length_append, HAN.out, L0.out]; have := HL3.out; omega, by rw [E2T.out], ?_, fun g hg => (NB7.out g hg).1, ?_⟩
              · rw [HEA.out]
                refine R10.out.mod MI.out (fun ⟨u, hu, e⟩ => ?_) (fun g hg ⟨u, hu, e⟩ => (U6.out u hu g e).2 hg)
                obtain ⟨x, hx⟩ := List.mem_iff_getElem?.1 hu
                have hlt2 := (List.getElem?_eq_some_iff.1 hx).1
                exact (PF10.out.dat x _ u (List.getElem?_eq_getElem (by have := PF10.out.len; omega)) hx).ne_cells R10.out.2.1 (by decide) e
              · exact ⟨MI.out.os.trans G10.out.os, MI.out.tape.trans G10.out.tape, MI.out.output.trans G10.out.output, Nat.le_trans G10.out.size MI.out.size, fun z hz hn => (MI.out.block z (Nat.lt_of_lt_of_le hz G10.out.size) (fun ⟨u, hu, e⟩ => by
                  rcases (U6.out u hu z e).1.1 with h2 | h2
                  · have := (R0.out.vlt z h2).1; omega
                  · have := G0.out.size; omega)).trans (G10.out.block z hz hn)⟩
            case measure => have := HKM.out; simp [intOf]; omega
    · obtain rfl : k = m0 := by omega
      have hki : ¬ (k : Int) < (k : Int) := by omega
      go_wp2
      go_ret
      exact ⟨rfl, below_of_none G0.out⟩
end Go.Proofs.Ytcfhpoigfkljpaa
