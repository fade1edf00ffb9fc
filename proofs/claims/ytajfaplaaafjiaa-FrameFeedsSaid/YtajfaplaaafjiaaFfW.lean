/- The walk of FrameFeeds. -/
import Derived.Test.YtajfaplaaafjiaaFrn
namespace Go.Proofs.Ytajfaplaaafjiaa
open Go.RowKit

theorem sz8 : (Try.prog.info? 5).map (·.size) = some 1 := by kernel_rfl
theorem own_CB {w : World} {b : Nat} {A : Option Addr} {n c : Nat} {l : List UInt8} (h : OwnB w b 5 (.slice A n c) l) : ∀ g, (Value.slice A n c).ownBlock = some g → A = some ⟨g, 0, none⟩ ∧ n ≤ c ∧ ∃ cs, CB w g 5 cs ∧ cs.length = c := by
  intro g hg
  rcases h.2 with ⟨hv, _⟩ | ⟨g', cap, cur, hv, _, hg', hc, _, hz, _⟩
  · rw [hv] at hg; simp [Value.ownBlock] at hg
  · simp only [Value.slice.injEq] at hv
    obtain ⟨rfl, rfl, rfl⟩ := hv
    have e : g' = g := by simpa [Value.ownBlock] using hg
    subst e
    exact ⟨rfl, hc, cur.toList, by rw [CB, Array.toArray_toList]; exact hg', by simpa using hz⟩
theorem RB.none_len {w : World} {B : Nat} {l : List UInt8} {c : Nat} (h : RB w B none l c) : l.length = 0 := by
  obtain ⟨h1, _, h3⟩ := h
  rcases h3 with ⟨_, h⟩ | ⟨a, h, _⟩
  · omega
  · cases h
/-- The bodies' blocks. -/
def SpS (vs : List Value) (k : Nat) : Prop := ∃ u ∈ vs, u.ownBlock = some k
/-- The bodies can be written. -/
def SpI (vs : List Value) (x : World) : Prop := ∀ u ∈ vs, ∀ g, u.ownBlock = some g → ∃ n c cs, u = .slice (some ⟨g, 0, none⟩) n c ∧ n ≤ c ∧ CB x g 5 cs ∧ cs.length = c
theorem SpI.set {vs : List Value} {x y : World} {g j : Nat} {cs : List Value} {z : Value} (h : SpI vs x) (hc : CB x g 5 cs) (hg : x.grownBy y (some g)) (hy : CB y g 5 (cs.set j z)) : SpI vs y := by
  intro u hu g' hg'
  obtain ⟨n, c, cs', h1, h2, h3, h4⟩ := h u hu g' hg'
  by_cases e : g' = g
  · subst e
    have : cs' = cs := by
      have e1 := h3.symm.trans hc
      injection e1 with e1
      injection e1 with e1
      exact List.toArray_inj e1
    subst this
    exact ⟨n, c, _, h1, h2, hy, by rw [List.length_set]; exact h4⟩
  · exact ⟨n, c, cs', h1, h2, h3.grown hg e, h4⟩
theorem spo_of {w : World} {b : Nat} {K : Nat → Prop} {v : Value} {fs : List Fr} (h : OwnF w b K v fs) : ∃ A c vs, v = .slice A fs.length c ∧ vs.length = fs.length ∧
    (∀ i u, vs[i]? = some u → ∃ gr, A = some ⟨gr, 0, none⟩ ∧ w.cell? ⟨gr, 0 + i * 2 + 1, none⟩ = some u ∧ ¬ SpS vs gr ∧ ∃ V n c, u = .slice V n c ∧ (V = none → n = 0) ∧ n ≤ 9223372036854775807) ∧ SpI vs w ∧ ∀ k, SpS vs k → K k ∧ b ≤ k ∧ k < w.heap.size ∧ ∃ cs, w.heap[k]? = some (.cells cs 5 (0, 0)) := by
  obtain ⟨vs, h1, h2, h3⟩ := h
  have hS : ∀ u ∈ vs, ∃ f, OwnB w b 5 u f ∧ ∀ g, u.ownBlock = some g → K g := by
    intro u hu
    obtain ⟨i, hi⟩ := List.mem_iff_getElem?.1 hu
    have hlt := (List.getElem?_eq_some_iff.1 hi).1
    obtain ⟨h4, h5⟩ := h3 i _ u (List.getElem?_eq_getElem (by omega)) hi
    exact ⟨_, h4, h5⟩
  have hSp : ∀ k, SpS vs k → K k ∧ b ≤ k ∧ k < w.heap.size ∧ ∃ cs, w.heap[k]? = some (.cells cs 5 (0, 0)) := by
    rintro k ⟨u, hu, hk⟩
    obtain ⟨f, h4, h5⟩ := hS u hu
    exact ⟨h5 k hk, (h4.lt k hk).1, (h4.lt k hk).2, own_cells h4 hk⟩
  have hI : SpI vs w := by
    intro u hu g hg
    obtain ⟨f, h4, -⟩ := hS u hu
    obtain ⟨A, c, rfl, -, -⟩ := h4.shape
    obtain ⟨rfl, h6, cs, h7, h8⟩ := own_CB h4 g hg
    exact ⟨_, c, cs, rfl, h6, h7, h8⟩
  rcases h2.2 with ⟨rfl, hl⟩ | ⟨g, cap, cur, rfl, hb, hg, hc, hm, _⟩
  · exact ⟨none, 0, vs, by rw [hl], h1, fun i u hu => by have := (List.getElem?_eq_some_iff.1 hu).1; omega, hI, hSp⟩
  · refine ⟨_, cap, vs, rfl, h1, fun i u hu => ⟨g, rfl, ?_, fun e => ?_, ?_⟩, hI, hSp⟩
    · have hlt := (List.getElem?_eq_some_iff.1 hu).1
      obtain ⟨-, c1⟩ := fcells_at fs vs i _ u (List.getElem?_eq_getElem (by omega)) hu
      have := h2.cells (g := g) rfl _ _ c1
      rw [Addr.add_lit] at this
      rw [Nat.mul_comm i 2, Nat.add_assoc]
      exact this
    · obtain ⟨_, _, _, cs, h5⟩ := hSp g e
      rw [hg] at h5
      injection h5 with h5
      injection h5 with _ h5
      exact absurd h5 (by decide)
    · obtain ⟨f, h4, -⟩ := hS u (List.mem_of_getElem? hu)
      obtain ⟨V, c, rfl, hr, -⟩ := h4.shape
      exact ⟨V, _, c, rfl, (fun e => by subst e; exact hr.none_len), by have h1 := hr.1; have h2 := hr.2.1; unfold maxLen at h2; omega⟩
theorem app_all {w x y : World} {r b : Nat} {va va' v vf : Value} {bb bb' part : List UInt8} {fs : List Fr} {br : Int} (al : OwnB x w.heap.size 5 va bb) (rd : RD x w.heap.size r v part br) (og : OwnF x b (fun g => v.ownBlock ≠ some g) vf fs) (ne : ∀ z, va.ownBlock = some z → v.ownBlock ≠ some z) (alb : ∀ z, va.ownBlock = some z → z < b) (hG : w.grownBy x none)
    (_ho : OwnB y w.heap.size 5 va' bb') (hg : x.grownBy y va.ownBlock) (ha : va'.ownBlock = va.ownBlock ∨ va'.ownBlock = some x.heap.size) :
    RD y w.heap.size r v part br ∧ OwnF y b (fun g => v.ownBlock ≠ some g ∧ va'.ownBlock ≠ some g) vf fs ∧ w.grownBy y none ∧ ∀ z, va'.ownBlock = some z → v.ownBlock ≠ some z := by
  have m : Mod (fun k => some k = va.ownBlock) x y := Mod.of_grown hg
  have hlt := al.lt
  have og2 : OwnF x b (fun g => (v.ownBlock ≠ some g ∧ va'.ownBlock ≠ some g) ∧ va.ownBlock ≠ some g) vf fs := og.mono (fun g hk hbg hlt2 => ⟨⟨hk, fun e => by
    rcases ha with h | h
    · rw [h] at e; have := alb g e; omega
    · rw [h] at e; injection e with e; omega⟩, fun e => by have := alb g e; omega⟩)
  refine ⟨rd.mod m (fun e => al.ne_cells rd.2.1 (by decide) e.symm) (fun g hg e => ne g e.symm hg), (og2.mod m (fun g hg e => og.ne_own al e.symm hg) (fun g hk _ _ e => hk.2 e.symm)).mono (fun g hk _ _ => hk.1), ⟨hg.os.trans hG.os, hg.tape.trans hG.tape, hg.output.trans hG.output, Nat.le_trans hG.size hg.size, fun k hk hn => (hg.block k (Nat.lt_of_lt_of_le hk hG.size) (fun e => by have := (hlt k e.symm).1; omega)).trans (hG.block k hk hn)⟩, fun z hz e => ?_⟩
  rcases ha with h | h
  · exact ne z (by rw [← h]; exact hz) e
  · rw [h] at hz; injection hz with hz; have := (rd.vlt z e).2.1; omega
/-- What stands at the head of each round. -/
def FfRel (w : World) (r m : Nat) (s4 s5 s6 s29 : Value) (wr : World) : Prop :=
  ∃ (k had : Nat) (bb : List UInt8) (br : Int) (v : Value) (part : List UInt8), s29 = .int .i64 k ∧ k ≤ m ∧ s5 = .int .i64 had ∧ s6 = .int .i64 br ∧ bb.length ≤ 23000 ∧ OwnB wr w.heap.size 5 s4 bb ∧ w.grownBy wr none ∧ RD wr w.heap.size r v part br ∧ (∀ z, s4.ownBlock = some z → v.ownBlock ≠ some z) ∧
    ((br = 0 ∧ ∃ fs, scan bb = (fs, part, 0) ∧ had = fs.length) ∨ (br ≠ 0 ∧ part = []))

set_option maxRecDepth 10000 in
set_option maxHeartbeats 8000000 in
theorem walk_FrameFeeds (w : World) (A0 : Option Addr) (ls : List (List UInt8)) (cap0 : Nat) (h0 : RT w w.heap.size A0 ls cap0) (_ : True) :
    Calls Try.prog 4 #[.slice A0 ls.length cap0] w fun e w' => e = .returned (.bool true) ∧ Below w.heap.size w w' := by
  have H0 := Lib.hid h0
  obtain ⟨m0, hm0⟩ : ∃ m, ls.length = m := ⟨_, rfl⟩
  have M0 := Lib.hid hm0
  have k0 : m0 ≤ 9223372036854775807 := by have := h0.1; have := h0.2.1; unfold maxLen at this; omega
  rw [hm0]
  clear h0 hm0
  by_cases g0 : 60 < m0
  · have gi : (60 : Int) < (m0 : Int) := by omega
    go_enter Try.func4, Try.ntmps4
    go_wp2_with (go_at_call 11; refine (speaks_any _).mono ?_; rintro e w1 ⟨rfl, g1⟩; have G1 := Lib.hid g1; clear g1)
    go_ret
    exact ⟨rfl, below_of_none G1.out⟩
  have g0i : (m0 : Int) ≤ 60 := by omega
  clear g0
  go_enter Try.func4, Try.ntmps4
  go_wp2_with (first
    | (go_at_call 11; refine (speaks_any _).mono ?_; rintro e w1 ⟨rfl, g1⟩; have G1 := Lib.hid g1; clear g1)
    | (go_at_call 14; refine (newReader_any _).mono ?_; rintro e w2 ⟨rfl, r2, g2⟩; have R2 := Lib.hid (r2.base_ G1.out.size); have G2 := Lib.hid (grown_trans' G1.out g2); clear r2 g2))
  have S2 := Lib.hid (show FfRel w w1.heap.size m0 (.slice (some ⟨w2.heap.size, 0, none⟩) 0 0) (.int .i64 0) (.int .i64 0) (.int .i64 0) (w2.alloc (.cells #[] 5)) from
    ⟨0, 0, [], 0, .slice none 0 0, [], rfl, Nat.zero_le _, rfl, rfl, by simp, (OwnB.new0 w2 w.heap.size 5 G2.out.size), grown_trans' G2.out (grown_alloc _ _ none), R2.out.made (grown_alloc _ _ none), fun _ _ => by simp [Value.ownBlock], .inl ⟨rfl, [], scan_nil, rfl⟩⟩)
  clear R2 G2 G1
  generalize w1.heap.size = r at *
  generalize w2.alloc (.cells #[] 5) = ws at *
  go_loopw [4, 5, 6, 29] (fun s4 s5 s6 s29 wr => FfRel w r m0 s4 s5 s6 s29 wr) (fun _ _ _ s29 _ => m0 - (intOf s29).toNat)
  case atStart => exact S2.out
  case round =>
    obtain ⟨wo, hwo⟩ : ∃ wo : World, wo = wr := ⟨_, rfl⟩
    subst hwo
    obtain ⟨k, had, bb, br, v, part, rfl, hk, rfl, rfl, hbl, hal, hG, hR, hne, hst⟩ := hrel
    have G0 := Lib.hid hG
    have R0 := Lib.hid hR
    have AL := Lib.hid hal
    have NE := Lib.hid hne
    have HBL := Lib.hid hbl
    have HST := Lib.hid hst
    clear hG hR hal hne hst hbl
    by_cases hlt : k < m0
    · obtain ⟨b, off, rfl, hbb, hc⟩ := H0.out.open_ (by have := M0.out; omega)
      obtain ⟨l, hl⟩ : ∃ l, ls[k]? = some l := ⟨_, List.getElem?_eq_getElem (by have := M0.out; omega)⟩
      obtain ⟨V, cv, c1, hV⟩ := hc k l hl
      obtain ⟨ln, hln⟩ : ∃ x, l.length = x := ⟨_, rfl⟩
      rw [hln] at c1
      have L0 := Lib.hid hln
      have HV := Lib.hid hV
      have hlm : ln ≤ 9223372036854775807 := by have := hV.1; have := hV.2.1; unfold maxLen at this; omega
      have q1 := ((below_rw G0.out (Nat.le_refl _)).cell (p := ⟨b, off + k, none⟩) hbb).trans c1
      have hki : (k : Int) < (m0 : Int) := by omega
      obtain ⟨A4, c4, hv4, -, -⟩ := AL.out.shape
      obtain ⟨bn, hbn⟩ : ∃ x, bb.length = x := ⟨_, rfl⟩
      have BN := Lib.hid hbn
      rw [hbn] at hv4
      subst hv4
      have hbm : bn ≤ 23000 := by rw [← hbn]; exact HBL.out
      clear hc hl c1 hV hln hbb hbn
      by_cases h3 : 3000 < ln
      · have hi : (3000 : Int) < (ln : Int) := by omega
        go_wp2
        go_ret
        exact ⟨rfl, below_of_none G0.out⟩
      have hi : (ln : Int) ≤ 3000 := by omega
      by_cases h2 : 20000 < bn
      · have hi2 : (20000 : Int) < (bn : Int) := by omega
        go_wp2
        go_ret
        exact ⟨rfl, below_of_none G0.out⟩
      have hi2 : (bn : Int) ≤ 20000 := by omega
      have HL3 := Lib.hid (show ln ≤ 3000 ∧ bn ≤ 20000 by omega)
      clear h3 h2 hlm hbm
      have HVr := Lib.hid ((HV.out.below (below_rw G0.out (Nat.le_refl _))).alloc G0.out.size (.cells #[] 5))
      rcases HST.out with ⟨rfl, fs, hsc, hhad⟩ | ⟨hbr, rfl⟩
      · obtain ⟨en, hen⟩ : ∃ en, (scan (part ++ l)).2.2 = en := ⟨_, rfl⟩
        obtain ⟨f2, p2, hf2⟩ : ∃ f2 p2, feedF part 0 l = (f2, p2, en) ∧ (en ≠ 0 → f2 = [] ∧ p2 = []) ∧ (en = 0 → scan (bb ++ l) = (fs ++ f2, p2, 0)) := by
          have hs := scan_app l (a := bb) (by rw [hsc])
          rw [hsc] at hs
          simp only at hs
          by_cases he : en = 0
          · refine ⟨(scan (part ++ l)).1, (scan (part ++ l)).2.1, ?_, fun h => absurd he h, fun _ => ?_⟩
            · unfold feedF
              rw [if_neg (by simp), if_neg (by rw [hen, he]; simp), ← hen]
            · rw [hs, ← he, ← hen]
          · refine ⟨[], [], ?_, fun _ => ⟨rfl, rfl⟩, fun h => absurd h he⟩
            unfold feedF
            rw [if_neg (by simp), if_pos (by rw [hen]; exact he), hen]
        obtain ⟨hfd, hfe, hfo⟩ := hf2
        have FD := Lib.hid hfd
        have FE := Lib.hid hfe
        have FO := Lib.hid hfo
        have HE2 := Lib.hid (show (scan (bb ++ l)).2.2 = en by rw [scan_app l (a := bb) (by rw [hsc]), hsc]; exact hen)
        have HINC := Lib.hid (show Inc part from by have h := scan_Inc (b := bb) (by rw [hsc]); rw [hsc] at h; exact h)
        have HAD := Lib.hid hhad
        clear HST hfd hfe hfo hen hsc hhad
        go_wp2_with (first
          | (at_builtin
             refine wpList_appB byteT rfl (.tmp 41) (.tmp 42) rfl (OwnB.new0 wo wo.heap.size 5 (Nat.le_refl _)) HVr.out (by first | rfl | go_simp) (by rw [L0.out]; first | rfl | go_simp) (by rw [L0.out]; have := HL3.out; simp; omega) (by simp) ?_
             intro v2 w2 o2 g2 _ a2
             rw [List.nil_append] at o2
             obtain ⟨A2, c2, hv2, r2, -⟩ := o2.shape
             rw [L0.out] at hv2
             subst hv2
             have I2 := Lib.hid o2
             have RI2 := Lib.hid r2
             have G2 := Lib.hid (grown_new (grown_alloc wo (.cells #[] 5) none) g2 (by simp))
             have NIL := Lib.hid (show A2 = none → ln = 0 from fun e => by subst e; exact L0.out.symm.trans r2.none_len)
             have AP2 := Lib.hid (Apart.own R0.out o2 (Nat.le_refl _))
             clear o2 g2 a2 r2)
          | (go_at_call 15
             refine (feed_open w2 _ _ _ _ (R0.out.made G2.out) HINC.out A2 l ln c2 L0.out RI2.out AP2.out (by have := HL3.out; omega)).mono ?_
             rintro e w6 ⟨vf, v6, rfl, o6, r6, m6, v6c⟩
             rw [FD.out] at o6 r6 ⊢
             obtain ⟨A6, c6, rfl, -, -⟩ := o6.shape
             have O6 := Lib.hid o6
             have R6 := Lib.hid r6
             have M6 := Lib.hid m6
             have V6 := Lib.hid v6c
             clear o6 r6 m6 v6c))
        have ILT := Lib.hid (fun g hg => I2.out.lt g hg)
        have I6 := Lib.hid (OwnB.mod I2.out M6.out (fun g hg e => by
          have h1 := (I2.out.lt g hg).1
          rcases e with e | e
          · have := R0.out.lt.2; omega
          · have := (R0.out.vlt g e).2.1; omega))
        have AL6 := Lib.hid (OwnB.mod (AL.out.none_ G2.out) M6.out (fun g hg e => by
          rcases e with e | e
          · exact AL.out.ne_cells R0.out.2.1 (by decide) (by rw [hg, e])
          · exact NE.out g hg e))
        have G6 := Lib.hid (none_mod (grown_trans' G0.out G2.out) (R0.out.made G2.out) M6.out)
        obtain ⟨fn, hfn⟩ : ∃ x, f2.length = x := ⟨_, rfl⟩
        have FN := Lib.hid hfn
        rw [hfn]
        clear I2 hfn
        have IC := Lib.hid (own_CB I6.out)
        clear I6
        go_loopw [52] (fun s52 wq => ∃ j : Nat, s52 = .int .i64 j ∧ j ≤ ln ∧ Mod (fun k => (Value.slice A2 ln c2).ownBlock = some k) w6 wq ∧ ∀ g, (Value.slice A2 ln c2).ownBlock = some g → A2 = some ⟨g, 0, none⟩ ∧ ln ≤ c2 ∧ ∃ cs, CB wq g 5 cs ∧ cs.length = c2) (fun s52 _ => ln - (intOf s52).toNat)
        case atStart => exact ⟨0, rfl, Nat.zero_le _, Mod.refl _ _, IC.out⟩
        case round =>
          obtain ⟨j, rfl, hj, hMj, hCj⟩ := hrel
          by_cases hjl : j < ln
          · obtain ⟨g2, hg2⟩ : ∃ g, (Value.slice A2 ln c2).ownBlock = some g := by
              cases A2 with
              | none => have := NIL.out rfl; omega
              | some a => exact ⟨a.block, rfl⟩
            obtain ⟨rfl, hlc, cs, hcs, hcl⟩ := hCj g2 hg2
            have MJ := Lib.hid hMj
            have CS := Lib.hid hcs
            have CL := Lib.hid hcl
            have hji : (j : Int) < (ln : Int) := by omega
            have hkeep := Lib.hid (show j < cs.length by rw [hcl]; omega)
            clear hMj hCj hcs hcl hg2
            go_wp2_with (refine wpList_setC (off := j) sz8 rfl (.tmp 57) (.const (.int .u8 238)) rfl .u8 238 CS.out hkeep.out (by first | rfl | go_simp) rfl ?_
                         intro w7 h7 g7
                         have C7 := Lib.hid h7
                         have G7 := Lib.hid g7
                         clear h7 g7)
            go_wp2
            go_roundw
            case rel => exact ⟨j + 1, by go_num, by omega, MJ.out.grown G7.out (fun z hz _ => by injection hz with hz; subst hz; rfl), fun g hg => by injection hg with hg; subst hg; exact ⟨rfl, hlc, _, C7.out, by rw [List.length_set]; exact CL.out⟩⟩
            case measure => simp [intOf]; omega
          · have hjn : ln = j := by omega
            subst hjn
            have MI := Lib.hid hMj
            clear hMj hCj hjl

            have hilt : ∀ g, (Value.slice A2 ln c2).ownBlock = some g → wo.heap.size ≤ g ∧ g < w2.heap.size := ILT.out
            have hws := G2.out.size
            have AL8 := Lib.hid (AL6.out.mod MI.out (fun z hz e => by have := (AL.out.lt z hz).2; have := (hilt z e).1; omega))
            have RD8 := Lib.hid (R6.out.mod MI.out (fun e => by have := R0.out.lt.2; have := (hilt _ e).1; omega) (fun z hz e => by
              have h1 := hilt _ e
              rcases V6.out z hz with h | h
              · have := (R0.out.vlt z h).2.1; omega
              · omega))
            have OF8 := Lib.hid (O6.out.mod MI.out (fun g hg e => by have := (O6.out.lt g hg).1; have := (hilt _ e).2; omega) (fun g _ hb _ e => by have := (hilt _ e).2; omega))
            have G8 := Lib.hid (show w.grownBy wr none from ⟨MI.out.os.trans G6.out.os, MI.out.tape.trans G6.out.tape, MI.out.output.trans G6.out.output, Nat.le_trans G6.out.size MI.out.size, fun z hz hn => (MI.out.block z (Nat.lt_of_lt_of_le hz G6.out.size) (fun e => by have := (hilt _ e).1; have := G0.out.size; omega)).trans (G6.out.block z hz hn)⟩)
            have NE8 := Lib.hid (show ∀ z, (Value.slice A4 bn c4).ownBlock = some z → v6.ownBlock ≠ some z from fun z hz e => by
              have h1 := (AL.out.lt z hz).2
              rcases V6.out z e with h | h
              · exact NE.out z hz h
              · omega)
            have ALB := Lib.hid (show ∀ z, (Value.slice A4 bn c4).ownBlock = some z → z < w2.heap.size from fun z hz => by have h1 := (AL.out.lt z hz).2; omega)
            have HW2a := Lib.hid (show w2.heap.size ≤ w6.heap.size from M6.out.size)
            have MIS := Lib.hid MI.out.size
            clear hilt hws MI IC AL6 R6 O6 G6 M6 V6 ILT
            have HW2 := Lib.hid (show w2.heap.size ≤ wr.heap.size from Nat.le_trans HW2a.out MIS.out)
            by_cases he : en = 0
            · subst he
              have hsz := FO.out rfl
              have SZ := Lib.hid hsz
              clear FE FO hsz
              go_wp2_with (first
              | (at_builtin
                 refine wpList_appB byteT rfl (.tmp 74) (.tmp 75) rfl AL8.out (HV.out.below (below_rw G8.out (Nat.le_refl _))) (by first | rfl | go_simp) (by rw [L0.out]; first | rfl | go_simp) (by rw [BN.out, L0.out]; have := HL3.out; omega) G8.out.size ?_
                 intro v7 w7 o7 g7 _ a7
                 have h7 := app_all AL8.out RD8.out OF8.out NE8.out ALB.out G8.out o7 g7 a7
                 obtain ⟨A7, c7, hv7, r7, -⟩ := o7.shape
                 have L7 := Lib.hid (show (bb ++ l).length = bn + ln by rw [List.length_append, BN.out, L0.out])
                 rw [L7.out] at hv7
                 subst hv7
                 have AL7 := Lib.hid o7
                 have R7 := Lib.hid r7
                 have H7 := Lib.hid h7
                 clear o7 g7 a7 r7 h7)
              | (go_at_call 18
                 refine (refRead_any w7 A7 (bb ++ l) (bn + ln) c7 L7.out R7.out (by have := HL3.out; omega)).mono ?_
                 rintro e w8 ⟨vl, fl, rfl, o8, hfl, g8⟩
                 rw [HE2.out] at hfl ⊢
                 obtain ⟨A8, c8, hv8, f8, -⟩ := o8.shape
                 subst hv8
                 have hfl2 : fl = fs ++ f2 := (hfl rfl).trans (by rw [SZ.out])
                 obtain ⟨N, hN⟩ : ∃ x, fl.length = x := ⟨_, rfl⟩
                 have hNN : N = had + fn := by rw [← hN, hfl2, List.length_append, ← HAD.out, FN.out]
                 have hNf : N - had = fn := by omega
                 have hNi : (had : Int) ≤ (N : Int) := by omega
                 have hNn : had ≤ N := by omega
                 have HNN := Lib.hid hNN
                 rw [hN]
                 obtain ⟨AX, hax⟩ : ∃ x, (if c8 = had then A8 else Option.map (fun x => x.add (had * 2)) A8) = x := ⟨_, rfl⟩
                 have FX := Lib.hid (show RF w8 w8.heap.size AX f2 (c8 - had) from by
                   have h := f8.cut (k := had) (by rw [hN]; exact hNn)
                   rw [hfl2, HAD.out, List.drop_left, ← HAD.out, hax] at h
                   exact h)
                 clear hfl2 hN hNN
                 have HFL := Lib.hid hfl
                 have P8 := Lib.hid g8
                 have RD9 := Lib.hid (H7.out.1.made g8)
                 clear o8 hfl g8 f8)
              | (go_at_call 16
                 have O9 := Lib.hid (H7.out.2.1.none_ P8.out)
                 obtain ⟨A9, c9, h9, f9, -⟩ := O9.out.shape
                 rw [FN.out] at h9
                 injection h9 with e9 _ e9c
                 subst e9 e9c
                 refine (same_any A6 AX f2 c6 (c8 - had) fn fn w8.heap.size w8 FN.out FN.out f9 FX.out (Nat.le_refl _)).mono ?_
                 rintro e w9 ⟨rfl, b9⟩
                 have G9 := Lib.hid (none_of_below b9 (Nat.le_refl _))
                 clear b9 f9)
              | (go_at_call 17; refine (rest_any w9 _ _ _ _ _ (RD9.out.made G9.out)).mono ?_; rintro e w10 ⟨rfl, rfl⟩; rw [show (scan (bb ++ l)).2.1 = p2 by rw [SZ.out]]))
              have HLT := Lib.hid hlt
              have GZ := Lib.hid (grown_trans' P8.out G9.out)
              have RZ := Lib.hid (RD9.out.made G9.out)
              have AZ := Lib.hid (AL7.out.none_ GZ.out)
              have GW := Lib.hid (grown_trans' H7.out.2.2.1 GZ.out)
              have OZ := Lib.hid (H7.out.2.1.none_ GZ.out)
              have NZ := Lib.hid H7.out.2.2.2
              have hfm : fn ≤ 9223372036854775807 := by
                obtain ⟨_, _, _, hrf, -⟩ := OZ.out.shape
                have h1 := hrf.1
                have h2 := hrf.2.1
                rw [FN.out] at h1
                unfold maxLen at h2
                omega
              obtain ⟨A9, c9, vs, h9, hvl, hrow, hI, hK⟩ := spo_of OZ.out
              rw [FN.out] at h9 hvl
              injection h9 with e9 _ e9c
              subst e9 e9c
              have VL := Lib.hid hvl
              have ROW := Lib.hid hrow
              have SI := Lib.hid hI
              have SK := Lib.hid hK
              clear hvl hrow hI hK OZ G9 P8 AL7 R7 H7 FX HFL hax RD9 GZ
              obtain ⟨wz, hwz⟩ : ∃ wz : World, wz = w10 := ⟨_, rfl⟩
              rw [← hwz] at RZ AZ GW ROW SI SK
              rw [← hwz]
              clear hwz
              go_loopw [119] (fun s119 wq => ∃ i : Nat, s119 = .int .i64 i ∧ i ≤ fn ∧ Mod (SpS vs) wz wq ∧ SpI vs wq) (fun s119 _ => fn - (intOf s119).toNat)
              case atStart => exact ⟨0, rfl, Nat.zero_le _, Mod.refl _ _, SI.out⟩
              case round =>
                obtain ⟨wp, hwp⟩ : ∃ wp : World, wp = wr := ⟨_, rfl⟩
                subst hwp
                obtain ⟨i, rfl, hi3, hM3, hI3⟩ := hrel
                by_cases hil : i < fn
                · obtain ⟨u, hu⟩ : ∃ u, vs[i]? = some u := ⟨_, List.getElem?_eq_getElem (by have := VL.out; omega)⟩
                  obtain ⟨gr, hA, hcell, hns, V9, n9, c9, rfl, hnil, hn9⟩ := ROW.out i u hu
                  subst hA
                  have hil2 : (i : Int) < (fn : Int) := by omega
                  have M3 := Lib.hid hM3
                  have I3 := Lib.hid hI3
                  have QC := Lib.hid (show wz.cell? ⟨gr, i * 2 + 1, none⟩ = some (.slice V9 n9 c9) by rw [Nat.zero_add] at hcell; exact hcell)
                  have HNS := Lib.hid hns
                  have HU := Lib.hid (List.mem_of_getElem? hu)
                  have HNI := Lib.hid hnil
                  have HIL := Lib.hid hil
                  have HGR := Lib.hid (World.block_lt_of_cell? wz _ QC.out)
                  have q3 : wp.cell? ⟨gr, i * 2 + 1, none⟩ = some (.slice V9 n9 c9) := (World.cell?_of_block (M3.out.block gr HGR.out HNS.out)).trans QC.out
                  clear hM3 hI3 hcell hns hu hnil
                  go_wp2
                  clear q3
                  go_loopw [128] (fun s128 wq => ∃ j : Nat, s128 = .int .i64 j ∧ j ≤ n9 ∧ Mod (SpS vs) wz wq ∧ SpI vs wq) (fun s128 _ => n9 - (intOf s128).toNat)
                  case atStart => exact ⟨0, rfl, Nat.zero_le _, M3.out, I3.out⟩
                  case round =>
                    obtain ⟨j, rfl, hj4, hM4, hI4⟩ := hrel
                    by_cases hjl : j < n9
                    · obtain ⟨g9, hg9⟩ : ∃ g, (Value.slice V9 n9 c9).ownBlock = some g := by
                        cases V9 with
                        | none => have := HNI.out rfl; omega
                        | some a => exact ⟨a.block, rfl⟩
                      obtain ⟨n9', c9', cs, h1, h2, h3, h4⟩ := hI4 _ HU.out g9 hg9
                      simp only [Value.slice.injEq] at h1
                      obtain ⟨rfl, rfl, rfl⟩ := h1
                      have M4 := Lib.hid hM4
                      have I4 := Lib.hid hI4
                      have C4 := Lib.hid h3
                      have CL := Lib.hid (show j < cs.length by omega)
                      have hjl2 : (j : Int) < (n9 : Int) := by omega
                      have q4 : wr.cell? ⟨gr, i * 2 + 1, none⟩ = some (.slice (some ⟨g9, 0, none⟩) n9 c9) := (World.cell?_of_block (hM4.block gr HGR.out HNS.out)).trans QC.out
                      have HG9 := Lib.hid (show SpS vs g9 from ⟨_, HU.out, hg9⟩)
                      clear hM4 hI4 h2 h3 h4 hg9
                      go_wp2_with (refine wpList_setC (off := j) sz8 rfl (.tmp 137) (.const (.int .u8 238)) rfl .u8 238 C4.out CL.out (by first | rfl | go_simp) rfl ?_
                                   intro w7 h7 g7
                                   have C7 := Lib.hid h7
                                   have G7 := Lib.hid g7
                                   clear h7 g7 q4)
                      go_wp2
                      go_roundw
                      case rel => exact ⟨j + 1, by go_num, by omega, M4.out.grown G7.out (fun z hz _ => by injection hz with hz; subst hz; exact HG9.out), I4.out.set C4.out G7.out C7.out⟩
                      case measure => simp [intOf]; omega
                    · have hjn : n9 = j := by omega
                      subst hjn
                      have M4 := Lib.hid hM4
                      have I4 := Lib.hid hI4
                      clear hM4 hI4
                      go_wp2
                      go_roundw
                      case rel => exact ⟨i + 1, by go_num, by have := HIL.out; omega, M4.out, I4.out⟩
                      case measure => have := HIL.out; simp [intOf]; omega
                · have hin : fn = i := by omega
                  subst hin
                  have M3 := Lib.hid hM3
                  have RE := Lib.hid (RZ.out.mod M3.out (fun e => by
                    obtain ⟨_, _, _, cs, h⟩ := SK.out r e
                    have h2 := RZ.out.2.1.symm.trans h
                    injection h2 with h2
                    injection h2 with _ h2
                    exact absurd h2 (by decide)) (fun g hg e => (SK.out g e).1.1 hg))
                  have AE := Lib.hid (AZ.out.mod M3.out (fun g hg e => (SK.out g e).1.2 hg))
                  have GE := Lib.hid (show w.grownBy wp none from ⟨M3.out.os.trans GW.out.os, M3.out.tape.trans GW.out.tape, M3.out.output.trans GW.out.output, Nat.le_trans GW.out.size M3.out.size, fun z hz hn => (M3.out.block z (Nat.lt_of_lt_of_le hz GW.out.size) (fun e => by have := (SK.out z e).2.1; have := G0.out.size; have := G2.out.size; omega)).trans (GW.out.block z hz hn)⟩)
                  clear hM3 hI3 M3
                  go_wp2
                  go_roundw
                  case rel => exact ⟨k + 1, N, bb ++ l, 0, v6, p2, by go_num, by have := HLT.out; omega, rfl, rfl, by rw [L7.out]; have := HL3.out; omega, AE.out, GE.out, RE.out, NZ.out, .inl ⟨rfl, fs ++ f2, SZ.out, by rw [List.length_append, ← HAD.out, FN.out]; exact HNN.out⟩⟩
                  case measure => have := HLT.out; simp [intOf]; omega
            · obtain ⟨rfl, rfl⟩ := FE.out he
              have hen : (en == 0) = false := by rw [beq_eq_false_iff_ne]; exact he
              have HNE := Lib.hid he
              have hfn0 : fn = 0 := FN.out.symm
              have hfn0i : (fn : Int) = 0 := by omega
              clear FE FO he
              subst hfn0
              have HS3 := Lib.hid (show (scan (bb ++ l)).2.1 = [] from by
                rcases scan_zero _ (bb ++ l) (Nat.lt_succ_self _) with h | h
                · rw [HE2.out] at h; exact absurd h HNE.out
                · exact h.2)
              go_wp2_with (first
              | (at_builtin
                 refine wpList_appB byteT rfl (.tmp 74) (.tmp 75) rfl AL8.out (HV.out.below (below_rw G8.out (Nat.le_refl _))) (by first | rfl | go_simp) (by rw [L0.out]; first | rfl | go_simp) (by rw [BN.out, L0.out]; have := HL3.out; omega) G8.out.size ?_
                 intro v7 w7 o7 g7 _ a7
                 have h7 := app_all AL8.out RD8.out OF8.out NE8.out ALB.out G8.out o7 g7 a7
                 obtain ⟨A7, c7, hv7, r7, -⟩ := o7.shape
                 have L7 := Lib.hid (show (bb ++ l).length = bn + ln by rw [List.length_append, BN.out, L0.out])
                 rw [L7.out] at hv7
                 subst hv7
                 have AL7 := Lib.hid o7
                 have R7 := Lib.hid r7
                 have H7 := Lib.hid h7
                 clear o7 g7 a7 r7 h7)
              | (go_at_call 18
                 refine (refRead_any w7 A7 (bb ++ l) (bn + ln) c7 L7.out R7.out (by have := HL3.out; omega)).mono ?_
                 rintro e w8 ⟨vl, fl, rfl, o8, hfl, g8⟩
                 rw [HE2.out] at hfl ⊢
                 obtain ⟨A8, c8, hv8, f8, -⟩ := o8.shape
                 subst hv8
                 have F8 := Lib.hid f8
                 have HFL := Lib.hid hfl
                 have P8 := Lib.hid g8
                 have RD9 := Lib.hid (H7.out.1.made g8)
                 clear o8 hfl g8 f8)
              | (go_at_call 17; refine (rest_any w8 _ _ _ _ _ RD9.out).mono ?_; rintro e w10 ⟨rfl, rfl⟩))
              go_roundw
              case rel => exact ⟨k + 1, had, bb ++ l, en, v6, [], by go_num, by omega, rfl, rfl, by rw [L7.out]; have := HL3.out; omega, AL7.out.none_ P8.out, grown_trans' H7.out.2.2.1 P8.out, RD9.out, H7.out.2.2.2, .inr ⟨HNE.out, rfl⟩⟩
              case measure => simp [intOf]; omega
      · have FSH := Lib.hid (fun W (hg : wo.grownBy W none) A c => feed_shut W w.heap.size r v br (R0.out.made hg) hbr A ln c)
        have hbe : (br == 0) = false := by rw [beq_eq_false_iff_ne]; exact hbr
        have HBR := Lib.hid hbr
        clear HST hbr
        go_wp2_with (first
          | (at_builtin
             refine wpList_appB byteT rfl (.tmp 41) (.tmp 42) rfl (OwnB.new0 wo wo.heap.size 5 (Nat.le_refl _)) HVr.out (by first | rfl | go_simp) (by rw [L0.out]; first | rfl | go_simp) (by rw [L0.out]; have := HL3.out; simp; omega) (by simp) ?_
             intro v2 w2 o2 g2 _ a2
             rw [List.nil_append] at o2
             obtain ⟨A2, c2, hv2, r2, -⟩ := o2.shape
             rw [L0.out] at hv2
             subst hv2
             have I2 := Lib.hid o2
             have G2 := Lib.hid (grown_new (grown_alloc wo (.cells #[] 5) none) g2 (by simp))
             have NIL := Lib.hid (show A2 = none → ln = 0 from fun e => by subst e; exact L0.out.symm.trans r2.none_len)
             clear o2 g2 a2 r2)
          | (go_at_call 15; refine (FSH.out _ G2.out A2 c2).mono ?_; rintro e w6 ⟨rfl, d6⟩; have D6 := Lib.hid d6; clear d6))
        have I6 := Lib.hid (OwnB.none_ I2.out (D6.out.made none))
        have G26 := Lib.hid (grown_trans' G2.out (D6.out.made none))
        have ILT := Lib.hid (fun g hg => (I2.out.lt g hg).1)
        clear I2 FSH
        have IC := Lib.hid (own_CB I6.out)
        clear I6
        go_loopw [52] (fun s52 wq => ∃ j : Nat, s52 = .int .i64 j ∧ j ≤ ln ∧ Mod (fun k => (Value.slice A2 ln c2).ownBlock = some k) w6 wq ∧ ∀ g, (Value.slice A2 ln c2).ownBlock = some g → A2 = some ⟨g, 0, none⟩ ∧ ln ≤ c2 ∧ ∃ cs, CB wq g 5 cs ∧ cs.length = c2) (fun s52 _ => ln - (intOf s52).toNat)
        case atStart => exact ⟨0, rfl, Nat.zero_le _, Mod.refl _ _, IC.out⟩
        case round =>
          obtain ⟨j, rfl, hj, hMj, hCj⟩ := hrel
          by_cases hjl : j < ln
          · obtain ⟨g2, hg2⟩ : ∃ g, (Value.slice A2 ln c2).ownBlock = some g := by
              cases A2 with
              | none => have := NIL.out rfl; omega
              | some a => exact ⟨a.block, rfl⟩
            obtain ⟨rfl, hlc, cs, hcs, hcl⟩ := hCj g2 hg2
            have MJ := Lib.hid hMj
            have CS := Lib.hid hcs
            have CL := Lib.hid hcl
            have hji : (j : Int) < (ln : Int) := by omega
            have hkeep := Lib.hid (show j < cs.length by rw [hcl]; omega)
            clear hMj hCj hcs hcl hg2
            go_wp2_with (refine wpList_setC (off := j) sz8 rfl (.tmp 57) (.const (.int .u8 238)) rfl .u8 238 CS.out hkeep.out (by first | rfl | go_simp) rfl ?_
                         intro w7 h7 g7
                         have C7 := Lib.hid h7
                         have G7 := Lib.hid g7
                         clear h7 g7)
            go_wp2
            go_roundw
            case rel => exact ⟨j + 1, by go_num, by omega, MJ.out.grown G7.out (fun z hz _ => by injection hz with hz; subst hz; rfl), fun g hg => by injection hg with hg; subst hg; exact ⟨rfl, hlc, _, C7.out, by rw [List.length_set]; exact CL.out⟩⟩
            case measure => simp [intOf]; omega
          · have hjn : ln = j := by omega
            subst hjn
            have MI := Lib.hid hMj
            clear hMj hCj hjl

            have ALe := Lib.hid ((AL.out.none_ G26.out).mod MI.out (fun z hz e => by have := (AL.out.lt z hz).2; have := (ILT.out z e); omega))
            have RDe := Lib.hid ((R0.out.made G26.out).mod MI.out (fun e => by have := R0.out.lt.2; have := ILT.out _ e; omega) (fun z hz e => by have := (R0.out.vlt z hz).2.1; have := ILT.out _ e; omega))
            have GE := Lib.hid (show w.grownBy wr none from ⟨MI.out.os.trans (grown_trans' G0.out G26.out).os, MI.out.tape.trans (grown_trans' G0.out G26.out).tape, MI.out.output.trans (grown_trans' G0.out G26.out).output, Nat.le_trans (grown_trans' G0.out G26.out).size MI.out.size, fun z hz hn => (MI.out.block z (Nat.lt_of_lt_of_le hz (grown_trans' G0.out G26.out).size) (fun e => by have := ILT.out _ e; have := G0.out.size; omega)).trans ((grown_trans' G0.out G26.out).block z hz hn)⟩)
            clear MI IC
            go_wp2_with (go_at_call 17; refine (rest_any wr _ _ _ _ _ RDe.out).mono ?_; rintro e w10 ⟨rfl, rfl⟩)
            go_roundw
            case rel => exact ⟨k + 1, had, bb, br, v, [], by go_num, by omega, rfl, rfl, HBL.out, ALe.out, GE.out, RDe.out, NE.out, .inr ⟨HBR.out, rfl⟩⟩
            case measure => simp [intOf]; omega
    · obtain rfl : k = m0 := by omega
      go_wp2
      go_ret
      exact ⟨rfl, below_of_none G0.out⟩
end Go.Proofs.Ytajfaplaaafjiaa
