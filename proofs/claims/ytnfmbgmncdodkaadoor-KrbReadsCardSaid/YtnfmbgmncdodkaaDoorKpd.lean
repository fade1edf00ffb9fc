/- krb.Write and krb.Read once more: what they answer is their own memory. -/
import Derived.Test.YtnfmbgmncdodkaaDoorKrx
import Derived.Test.YtnfmbgmncdodkaaDoorKra
import Derived.Test.YtnfmbgmncdodkaaDoorKpb
namespace Go.Proofs.YtnfmbgmncdodkaaDoor
open Go.RowKit

def WroteO (w : World) (ok : Bool) (b : List UInt8) (e : Ending) (w' : World) : Prop :=
  w.grownBy w' none ∧ if ok = true then ∃ v, e = .returned (.tuple #[v, .int .i64 0]) ∧ OwnB w' w.heap.size 5 v b else e = .returned (.tuple #[.slice none 0 0, .int .i64 1])
theorem WroteO.no {w w' : World} {e : Ending} {b : List UInt8} (h : e = .returned (.tuple #[.slice none 0 0, .int .i64 1])) (hg : w.grownBy w' none) : WroteO w false b e w' := ⟨hg, by rw [if_neg (by simp)]; exact h⟩
theorem WroteO.yes {w w' : World} {v : Value} {b : List UInt8} (h : OwnB w' w.heap.size 5 v b) (hg : w.grownBy w' none) : WroteO w true b (.returned (.tuple #[v, .int .i64 0])) w' := ⟨hg, by rw [if_pos rfl]; exact ⟨v, rfl, h⟩⟩
theorem OwnB.none_ {w w' : World} {base : Nat} {e : TypeId} {v : Value} {l : List UInt8} (h : OwnB w base e v l) (hg : w.grownBy w' none) : OwnB w' base e v l := h.below (below_of_none hg)
theorem OwnB.off {w w' : World} {base g : Nat} {e t : TypeId} {v : Value} {l : List UInt8} {cs : List Value} (h : OwnB w base e v l) (hg : w.grownBy w' (some g)) (hc : CB w g t cs) (hne : t ≠ e) : OwnB w' base e v l := by
  refine World.ownsRow.kept h hg ?_
  rcases h.2 with ⟨rfl, _⟩ | ⟨g', cap, cur, rfl, hb, hg', _⟩
  · exact .inl rfl
  · right
    intro he
    have : g' = g := by simpa [Value.ownBlock] using he
    subst this
    have hc' : w.heap[g']? = some (.cells cs.toArray t (0, 0)) := hc
    rw [hc'] at hg'
    injection hg' with hg'
    injection hg' with _ h2 _
    exact hne h2
/-- A message whose bytes are the call's own. -/
def O2 (w : World) (B : Nat) (m : Msg) (T : Option Addr) (tc : Nat) (S : Option Addr) (sc : Nat) : Prop := OwnB w B 5 (.slice T m.t.length tc) m.t ∧ OwnB w B 5 (.slice S m.sl.length sc) m.sl
theorem O2.none_ {w w' : World} {B : Nat} {m : Msg} {T : Option Addr} {tc : Nat} {S : Option Addr} {sc : Nat} (h : O2 w B m T tc S sc) (hg : w.grownBy w' none) : O2 w' B m T tc S sc := ⟨OwnB.none_ h.1 hg, OwnB.none_ h.2 hg⟩
theorem O2.off {w w' : World} {B g : Nat} {m : Msg} {T : Option Addr} {tc : Nat} {S : Option Addr} {sc : Nat} {cs : List Value} (h : O2 w B m T tc S sc) (hg : w.grownBy w' (some g)) (hc : CB w g 26 cs) : O2 w' B m T tc S sc := ⟨OwnB.off h.1 hg hc (by decide), OwnB.off h.2 hg hc (by decide)⟩
theorem O2.km {w : World} {B : Nat} {m : Msg} {T : Option Addr} {tc : Nat} {S : Option Addr} {sc : Nat} (h : O2 w B m T tc S sc) : KM w w.heap.size m T tc S sc := by
  obtain ⟨A, c, hv, hr, -⟩ := OwnB.shape h.1
  obtain ⟨A', c', hv', hr', -⟩ := OwnB.shape h.2
  injection hv with h1 _ h2
  injection hv' with h3 _ h4
  subst h1 h2 h3 h4
  exact ⟨hr, hr'⟩
def ReadingO (B : Nat) (g : Nat) (m : Msg) (w : World) : Prop := ∃ T tc S sc, CB w g 26 (kcells m T tc S sc) ∧ KM w w.heap.size m T tc S sc ∧ O2 w B m T tc S sc
theorem ReadingO.put {B g : Nat} {m : Msg} {f : Fd} {T : Option Addr} {tc : Nat} {S : Option Addr} {sc : Nat} {V : Option Addr} {vc : Nat} {w w' : World} {e : Ending} (hk : KM w' w'.heap.size m T tc S sc) (ho : O2 w' B m T tc S sc) (hv : RB w' w'.heap.size V f.2 vc) (hb : OwnB w' B 5 (.slice V f.2.length vc) f.2) (h : PutP w g m T tc S sc V vc f e w') : ReadingO B g (putK m f) w' := by
  obtain ⟨_, _, T', tc', S', sc', hc, ht, hs⟩ := h
  refine ⟨T', tc', S', sc', hc, ⟨?_, ?_⟩, ⟨?_, ?_⟩⟩
  · rcases ht with ⟨h1, rfl, rfl⟩ | ⟨h1, rfl, rfl⟩
    · rw [h1]; exact hk.1
    · rw [h1]; exact hv
  · rcases hs with ⟨h1, rfl, rfl⟩ | ⟨h1, rfl, rfl⟩
    · rw [h1]; exact hk.2
    · rw [h1]; exact hv
  · rcases ht with ⟨h1, rfl, rfl⟩ | ⟨h1, rfl, rfl⟩
    · rw [h1]; exact ho.1
    · rw [h1]; exact hb
  · rcases hs with ⟨h1, rfl, rfl⟩ | ⟨h1, rfl, rfl⟩
    · rw [h1]; exact ho.2
    · rw [h1]; exact hb
theorem OwnF.openO {w : World} {base : Nat} {tF tB : TypeId} {v : Value} {fs : List Fd} (h : OwnF w base tF tB v fs) (hp : 0 < fs.length) : ∃ b off cap, v = .slice (some ⟨b, off, none⟩) fs.length cap ∧ b < w.heap.size ∧ ∀ k f, fs[k]? = some f →
    w.cell? ⟨b, off + k * 2, none⟩ = some (.int .i64 f.1) ∧ ∃ V c, w.cell? ⟨b, off + k * 2 + 1, none⟩ = some (.slice V f.2.length c) ∧ RB w w.heap.size V f.2 c ∧ OwnB w base tB (.slice V f.2.length c) f.2 := by
  obtain ⟨vs, h1, h2, h3⟩ := h
  rcases h2.2 with ⟨rfl, hl⟩ | ⟨g, cap, cur, rfl, hb, hg, hc, hm, _⟩
  · omega
  · refine ⟨g, 0, cap, rfl, (Array.getElem?_eq_some_iff.1 hg).1, fun k f hf => ?_⟩
    have hk : k < vs.length := by rw [h1]; exact (List.getElem?_eq_some_iff.1 hf).1
    have hu := List.getElem?_eq_getElem hk
    obtain ⟨c0, c1⟩ := fcells_at fs vs k f _ hf hu
    have hown := h3 k f _ hf hu
    obtain ⟨V, c, hV, hr, hbb⟩ := hown.shape
    have d0 := h2.cells (g := g) rfl _ _ c0
    have d1 := h2.cells (g := g) rfl _ _ c1
    rw [Addr.add_lit, Nat.mul_comm 2 k] at d0
    rw [Addr.add_lit, Nat.mul_comm 2 k, ← Nat.add_assoc] at d1
    refine ⟨d0, V, c, ?_, hr, by rw [← hV]; exact hown⟩
    rw [← hV]
    exact d1
def RdKO (w : World) (ok : Bool) (m : Msg) (e : Ending) (w' : World) : Prop :=
  w.grownBy w' none ∧ if ok = true then ∃ T tc S sc, e = .returned (.tuple #[.agg (kcells m T tc S sc).toArray, .int .i64 0]) ∧ O2 w' w.heap.size m T tc S sc
    else e = .returned (.tuple #[.agg kZero.toArray, .int .i64 21])
theorem RdKO.no {w w' : World} {m : Msg} {e : Ending} {ok : Bool} (ho : ok = false) (hg : w.grownBy w' none) (h : e = .returned (.tuple #[.agg kZero.toArray, .int .i64 21])) : RdKO w ok m e w' := ⟨hg, by rw [if_neg (by rw [ho]; simp)]; exact h⟩
theorem RdKO.yes {w w' : World} {m : Msg} {e : Ending} {ok : Bool} {T : Option Addr} {tc : Nat} {S : Option Addr} {sc : Nat} (ho : ok = true) (hg : w.grownBy w' none) (h : e = .returned (.tuple #[.agg (kcells m T tc S sc).toArray, .int .i64 0])) (hk : O2 w' w.heap.size m T tc S sc) : RdKO w ok m e w' := ⟨hg, by rw [if_pos ho]; exact ⟨T, tc, S, sc, h, hk⟩⟩
set_option maxRecDepth 10000 in
set_option maxHeartbeats 2000000 in
theorem kwrite_own (m : Msg) (T : Option Addr) (tc : Nat) (S : Option Addr) (sc B : Nat) (w : World) (hM : ML w) (h : KM w B m T tc S sc) (hB : B ≤ w.heap.size) (hno : m.no < 18446744073709551616) (hl : lensK m) :
    Calls Tryd.prog 9 #[.agg (kcells m T tc S sc).toArray] w fun e w' => WroteO w (okK m) (bytesK m) e w' := by
  have HM := Lib.hid hM
  have HK := Lib.hid h
  have HB := Lib.hid hB
  have HNO := Lib.hid hno
  have HL := Lib.hid hl
  have HC := Lib.hid (show m.c.size ≤ 1000000 by have := hl.1; omega)
  have HS := Lib.hid (show m.s.size ≤ 1000000 by have := hl.2.1; omega)
  have B0 := Lib.hid (CB.new w 26 (kcells m T tc S sc))
  have G0 := Lib.hid (grown_alloc w (.cells (kcells m T tc S sc).toArray 26) none)
  obtain ⟨ok, hok⟩ : ∃ b, okK m = b := ⟨_, rfl⟩
  have HOK := Lib.hid hok
  rw [hok]
  have TK0 := Lib.hid True.intro
  cases ok with
  | false =>
    clear hM h hB hno hl hok
    go_enter Tryd.func9, Tryd.ntmps9
    go_wp2_with (first
      | refine wpList_loadC (off := 0) (p := kcells m T tc S sc) aggKm rfl (.tmp 1) rfl B0.out rfl (by rw [kcells_length]; omega) (by first | rfl | go_simp) ?_
      | (go_at_call 28; refine (check_k m T tc S sc B _ (HM.out.below (below_of_none G0.out)) (HK.out.kept G0.out HB.out) (Nat.le_trans HB.out G0.out.size) HNO.out HC.out HS.out).mono ?_; rw [HOK.out, if_neg (by simp)]; rintro e w1 ⟨rfl, g⟩; have G1 := Lib.hid (grown_trans' G0.out g); clear g))
    go_ret2
    exact WroteO.no rfl G1.out
  | true =>
    obtain ⟨ks, hks⟩ : ∃ ks, tagsK m.kd = ks := ⟨_, rfl⟩
    have HKS := Lib.hid hks
    obtain ⟨n, hn⟩ : ∃ n, ks.length = n := ⟨_, rfl⟩
    have HN := Lib.hid hn
    have HN7 := Lib.hid (show n ≤ 7 by rw [← hn, ← hks]; exact tagsK_length _)
    have HNP := Lib.hid (show 0 < n by rw [← hn, ← hks]; exact List.length_pos_iff.2 (okK_tags hok))
    obtain ⟨FS, hfs⟩ : ∃ F, fieldsK m = F := ⟨_, rfl⟩
    have HFS := Lib.hid hfs
    have HFL := Lib.hid (show FS.length = n by rw [← hfs, fieldsK, List.length_map, hks, hn])
    have HFA := Lib.hid (show ∀ k t, ks[k]? = some t → FS[k]? = some (t, valK m t) from fun k t ht => by rw [← hfs, fieldsK, List.getElem?_map, hks, ht]; rfl)
    have HTI := Lib.hid (show ∀ t ∈ ks, 31 ≤ t ∧ t ≤ 39 from fun t ht => tagsK_in m.kd t (by rw [hks]; exact ht))
    have HJ := Lib.hid (show joinOf FS [] = (bytesK m, 0) by rw [← hfs]; exact joinOf_ok _ [] (fieldsK_chk m hl))
    have HTOT := Lib.hid (show tot FS ≤ 1000000 by rw [← hfs]; exact fieldsK_tot m hl)
    have HTR := Lib.hid (show ∀ f ∈ FS, -9223372036854775808 ≤ f.1 ∧ f.1 ≤ 9223372036854775807 from fun f hf => by
      rw [← hfs] at hf
      obtain ⟨t, ht, rfl⟩ := List.mem_map.1 hf
      have := tagsK_in _ _ ht
      simp only
      omega)
    clear hM h hB hno hl hok hks hn hfs
    go_enter Tryd.func9, Tryd.ntmps9
    go_wp2_with (first
      | refine wpList_loadC (off := 0) (p := kcells m T tc S sc) aggKm rfl (.tmp 1) rfl B0.out rfl (by rw [kcells_length]; omega) (by first | rfl | go_simp) ?_
      | (go_at_call 28; refine (check_k m T tc S sc B _ (HM.out.below (below_of_none G0.out)) (HK.out.kept G0.out HB.out) (Nat.le_trans HB.out G0.out.size) HNO.out HC.out HS.out).mono ?_; rw [HOK.out, if_pos rfl]; rintro e w1 ⟨rfl, g⟩; have G1 := Lib.hid (grown_trans' G0.out g); have B1 := Lib.hid (B0.out.kept g); have q1 := B1.out.at_ (i := 0) (v := .int .i64 m.kd) rfl; clear g)
      | (go_at_call 29; refine (tagsOf_any m.kd _).mono ?_; rintro e w2 ⟨v, rfl, hi, g⟩; rw [HKS.out] at hi; obtain ⟨A, c, rfl, hr⟩ := hi; rw [HN.out]; have G2 := Lib.hid (grown_trans' G1.out g); have B2 := Lib.hid (B1.out.kept g); have R2 := Lib.hid hr; clear g hr q1))
    obtain ⟨b, off, hA, hbk, hcell⟩ := R2.out.open_ (by rw [HN.out]; exact HNP.out)
    subst hA
    have HBK := Lib.hid hbk
    have HCE := Lib.hid hcell
    clear hbk hcell
    go_loopw [5, 17] (fun v i wr => ∃ k : Nat, i = .int .i64 k ∧ k ≤ n ∧ OwnR wr w2.heap.size v (FS.take k) ∧ w2.grownBy wr none) (fun _ i _ => n - (intOf i).toNat)
    case atStart => exact ⟨0, rfl, Nat.zero_le _, OwnR.nil_ _ _, World.grownBy.refl _ _⟩
    case round =>
      obtain ⟨k, rfl, hk, hown, hg⟩ := hrel
      have HOWN := Lib.hid hown
      have GR := Lib.hid hg
      have BR := Lib.hid (B2.out.kept hg)
      have G3 := Lib.hid (grown_trans' G2.out hg)
      have SR := Lib.hid hg.size
      clear hown hg
      by_cases hlt : k < n
      · have hlti : (k : Int) < (n : Int) := by omega
        have hn7 : (n : Int) ≤ 7 := by have := HN7.out; omega
        have hkl : k < ks.length := by rw [HN.out]; exact hlt
        obtain ⟨tg, htg⟩ : ∃ t, ks[k] = t := ⟨_, rfl⟩
        have hat : ks[k]? = some tg := by rw [List.getElem?_eq_getElem hkl, htg]
        have HTG := Lib.hid (HTI.out tg (by rw [← htg]; exact List.getElem_mem hkl))
        obtain ⟨L, hL⟩ : ∃ L, valK m tg = L := ⟨_, rfl⟩
        have HLL := Lib.hid hL
        obtain ⟨nl, hnl⟩ : ∃ n, L.length = n := ⟨_, rfl⟩
        have HNL := Lib.hid hnl
        have HTK := Lib.hid (show FS.take (k + 1) = FS.take k ++ [(tg, L)] by
          have h1 := HFA.out k tg hat
          rw [hL] at h1
          rw [List.take_add_one, h1]
          rfl)
        have hq : wr.cell? ⟨b, off + k, none⟩ = some (.int .i64 tg) := by
          rw [(below_of_none GR.out).cell (p := ⟨b, off + k, none⟩) HBK.out, HCE.out k hkl, htg]
        have HLEN := Lib.hid (show (FS.take k).length ≤ 1000000 by rw [List.length_take]; have := HN7.out; omega)
        clear htg hat hL hnl hkl
        go_wp2_with (first
          | refine wpList_loadC (off := 0) (p := kcells m T tc S sc) aggKm rfl (.tmp 1) rfl BR.out rfl (by rw [kcells_length]; omega) (by first | rfl | go_simp) ?_
          | (go_at_call 30; refine (valueOf_any tg HTG.out.1 HTG.out.2 m T tc S sc B _ (HK.out.kept G3.out HB.out) (Nat.le_trans HB.out G3.out.size) HNO.out (by have := HC.out; omega) (by have := HS.out; omega)).mono ?_; rw [HLL.out]; rintro e w3 ⟨V, vc, rfl, r, ap, g⟩; rw [HNL.out]; have RV := Lib.hid r; have AP := Lib.hid ap; have GV := Lib.hid g; have OV := Lib.hid (HOWN.out.kept g); have SV := Lib.hid (Nat.le_trans SR.out g.size); have AP2 := Lib.hid (apart_of HOWN.out ap HB.out G2.out.size); clear r ap g)
          | (at_builtin; refine wpList_appLit fieldT rfl (.tmp 21) (.tmp 27) rfl HNL.out OV.out RV.out AP2.out rfl (by first | rfl | go_simp) HLEN.out SV.out ?_; intro v4 w4 o4 g4; have hne := OV.out.lt; have O4 := Lib.hid o4; have G4 := Lib.hid (grownR (grown_trans' (grown_trans' GR.out GV.out) (grown_alloc w3 _ none)) g4 (fun x hx => (hne x hx).1)); clear o4 g4 hne))
        go_roundw
        case rel => exact ⟨k + 1, by go_num, by omega, by rw [HTK.out]; exact O4.out, G4.out⟩
        case measure => first | (simp [intOf]; done) | (simp [intOf]; omega)
      · obtain rfl : k = n := by omega
        have HALL := Lib.hid (show FS.take k = FS from List.take_of_length_le (by rw [HFL.out]; exact Nat.le_refl _))
        rw [HALL.out] at HOWN
        obtain ⟨FA, fc, rfl, rf⟩ := HOWN.out.shape
        have RFF := Lib.hid rf
        rw [HFL.out]
        clear rf hk hlt
        go_wp2_with (go_at_call 31; have hj := join_any FA FS fc _ RFF.out HTR.out (by have := HTOT.out; omega); rw [HFL.out] at hj; refine hj.mono ?_; rw [HJ.out]; rintro e w5 ⟨v5, rfl, o5, b5⟩; have O5 := Lib.hid (o5.base_ G3.out.size); have G5 := Lib.hid (grown_trans' G3.out (none_of_below b5 (Nat.le_refl _))); clear o5 b5 hj)
        go_ret2
        exact WroteO.yes O5.out G5.out
set_option maxRecDepth 10000 in
set_option maxHeartbeats 4000000 in
theorem kread_own (n cap : Nat) (A : Option Addr) (l : List UInt8) (w : World) (hM : ML w) (hn : l.length = n) (hb : n ≤ 10000) (h : RB w w.heap.size A l cap) :
    Calls Tryd.prog 6 #[.slice A n cap] w fun e w' => RdKO w (readsK l) (madeK l) e w' := by
  have HM := Lib.hid hM
  have HN := Lib.hid hn
  have HB := Lib.hid hb
  have R0 := Lib.hid h
  have GA := Lib.hid (grown_alloc w (.cells kZero.toArray 26) none)
  have BA := Lib.hid (CB.new w 26 kZero)
  have RA := Lib.hid (h.keptB GA.out)
  obtain ⟨FS, e0, hs⟩ : ∃ FS e0, splitOf l = (FS, e0) := ⟨_, _, rfl⟩
  have HSP := Lib.hid hs
  by_cases he : e0 = 0
  · subst he
    obtain ⟨M, hMM⟩ : ∃ M, foldK FS = M := ⟨_, rfl⟩
    have HMM := Lib.hid hMM
    have HMD := Lib.hid (show madeK l = M by rw [madeK, hs]; exact hMM)
    have HFL := Lib.hid (show ∀ f ∈ FS, f.2.length ≤ 10000 from fun f hf => by
      have h1 := len_of_tot FS f hf
      have h2 := tot_splitOf l
      rw [hs] at h2
      simp only at h2
      omega)
    have HLN := Lib.hid (show lensK M ∧ M.no < 18446744073709551616 by rw [← hMM]; exact foldK_lens FS HFL.out)
    obtain ⟨ok, hok⟩ : ∃ b, okK M = b := ⟨_, rfl⟩
    have HOK := Lib.hid hok
    obtain ⟨Y, hY⟩ : ∃ Y, bytesK M = Y := ⟨_, rfl⟩
    have HY := Lib.hid hY
    obtain ⟨ny, hny⟩ : ∃ n, Y.length = n := ⟨_, rfl⟩
    have HNY := Lib.hid hny
    obtain ⟨eq, heq⟩ : ∃ b, decide (Y = l) = b := ⟨_, rfl⟩
    have HEQ := Lib.hid heq
    have HRD := Lib.hid (show readsK l = (ok && eq) by rw [readsK, hs]; simp only [decide_true, Bool.true_and]; rw [hMM, hok, hY, heq])
    obtain ⟨fn, hfn⟩ : ∃ n, FS.length = n := ⟨_, rfl⟩
    have HFN := Lib.hid hfn
    have HFB := Lib.hid (show fn ≤ 10000 by
      have h2 := tot_splitOf l
      rw [hs] at h2
      have h3 := len_tot FS
      simp only at h2
      omega)
    rw [HMD.out]
    clear hM hn hb h hs hMM hok hY hny heq hfn
    go_enter Tryd.func6, Tryd.ntmps6
    go_wp2_with (first
      | refine wpList_allocC zeroKr rfl rfl ?_
      | (go_at_call 21; refine (split_any A l cap n _ HN.out RA.out (by have := HB.out; omega)).mono ?_; rw [HSP.out]; rintro e w1 ⟨v, rfl, o, b1⟩; have GV := Lib.hid (none_of_below b1 (Nat.le_refl _)); have G1 := Lib.hid (grown_trans' GA.out GV.out); have B1 := Lib.hid (BA.out.kept GV.out); have O1 := Lib.hid (o.base_ GA.out.size); obtain ⟨FA, fc, rfl, rf, -⟩ := o.shape; rw [HFN.out]; have C6 := Lib.hid (CB.new w1 26 kZero); have G6 := Lib.hid (grown_trans' G1.out (grown_alloc w1 (.cells kZero.toArray 26) none)); clear o b1 rf))
    go_loopw [21] (fun i wr => ∃ k : Nat, i = .int .i64 k ∧ k ≤ fn ∧ ReadingO w.heap.size w1.heap.size (foldK (FS.take k)) wr ∧ w1.grownBy wr none) (fun i _ => fn - (intOf i).toNat)
    case atStart => exact ⟨0, rfl, Nat.zero_le _, ⟨none, 0, none, 0, C6.out, ⟨RB.nil_ _ _, RB.nil_ _ _⟩, ⟨World.ownsRow_nil _ _ _ _, World.ownsRow_nil _ _ _ _⟩⟩, grown_alloc _ _ _⟩
    case round =>
      obtain ⟨k, rfl, hk, ⟨T, tc, S, sc, hc, hkm, hown⟩, hg⟩ := hrel
      have CR := Lib.hid hc
      have KR := Lib.hid hkm
      have OR := Lib.hid hown
      have GR := Lib.hid hg
      have GW := Lib.hid (grown_trans' G1.out hg)
      have BR := Lib.hid (B1.out.kept hg)
      obtain ⟨m, hm⟩ : ∃ m, foldK (FS.take k) = m := ⟨_, rfl⟩
      have Hm := Lib.hid hm
      rw [hm] at CR KR OR
      clear hc hkm hown hg hm
      by_cases hlt : k < fn
      · have hlti : (k : Int) < (fn : Int) := by omega
        have hfb : (fn : Int) ≤ 10000 := by have := HFB.out; omega
        obtain ⟨f, hf⟩ : ∃ f, FS[k]? = some f := ⟨_, List.getElem?_eq_getElem (by rw [HFN.out]; exact hlt)⟩
        have HFT := Lib.hid (show foldK (FS.take (k + 1)) = putK m f by rw [foldK_take FS k f hf, Hm.out])
        obtain ⟨tg, v⟩ := f
        obtain ⟨b, off, fc2, hsl, hbk, hcell⟩ := O1.out.openO (by rw [HFN.out]; omega)
        rw [HFN.out] at hsl
        injection hsl with hs1 hs2 hs3
        subst hs1
        subst hs3
        obtain ⟨c0, V, vc, c1, hrv, hvb⟩ := hcell k (tg, v) hf
        obtain ⟨nv, hnv⟩ : ∃ n, v.length = n := ⟨_, rfl⟩
        have HNV := Lib.hid hnv
        simp only at c0 c1 hrv
        rw [hnv] at c1
        have k1 : wr.cell? ⟨b, off + k * 2, none⟩ = some (.int .i64 tg) := ((below_of_none GR.out).cell (p := ⟨b, off + k * 2, none⟩) hbk).trans c0
        have k2 : wr.cell? ⟨b, off + k * 2 + 1, none⟩ = some (.slice V nv vc) := ((below_of_none GR.out).cell (p := ⟨b, off + k * 2 + 1, none⟩) hbk).trans c1
        have RVr := Lib.hid (hrv.keptB GR.out)
        have HVB := Lib.hid (OwnB.none_ hvb GR.out)
        rw [hnv] at HVB
        have HFO := Lib.hid (show ∀ u ∈ ([.int .i64 tg, .slice V nv vc] : List Value), u.oneCell' = true from fun u hu => by
          simp only [List.mem_cons, List.not_mem_nil, or_false] at hu
          rcases hu with rfl | rfl <;> rfl)
        clear hcell c0 c1 hrv hvb hf hnv hbk hs2
        go_wp2_with (first
          | refine wpList_allocC zeroFd rfl rfl ?_
          | (refine wpList_storeC (off := 0) (p := [.int .i64 tg, .slice V nv vc]) aggFd.hi rfl (.tmp 8) (.tmp 24) rfl (.agg #[.int .i64 tg, .slice V nv vc]) rfl HFO.out (CB.new wr 64 zeroF) rfl (by decide) (by first | rfl | go_simp) (by first | rfl | go_simp) ?_; intro w2 h2 g2; rw [over_all _ _ (show zeroF.length ≤ ([.int .i64 tg, .slice V nv vc] : List Value).length from Nat.le_refl 2)] at h2; have C8 := Lib.hid h2; have g3 := none_new (grown_alloc wr (.cells zeroF.toArray 64) none) g2 (Nat.le_refl _); have G8 := Lib.hid (grown_trans' GR.out g3); have CR2 := Lib.hid (CR.out.kept g3); have KR2 := Lib.hid (KR.out.keptK g3); have RV2 := Lib.hid (RVr.out.keptB g3); have OR2 := Lib.hid (OR.out.none_ g3); have HV2 := Lib.hid (OwnB.none_ HVB.out g3); clear h2 g2 g3)
          | refine wpList_loadC (off := 0) (p := [.int .i64 tg, .slice V nv vc]) aggFd rfl (.tmp 8) rfl C8.out rfl (Nat.le_refl _) (by first | rfl | go_simp) ?_
          | (go_at_call 22; refine (put_any tg m T tc S sc w1.heap.size V v vc nv _ HNV.out RV2.out CR2.out).mono ?_; intro e w3 hp; have hg3 := hp.2.1; have RD := Lib.hid (ReadingO.put (KR2.out.otherU hg3 CR2.out (kcells_u8 _ _ _ _ _)) (OR2.out.off hg3 CR2.out) (RV2.out.otherU hg3 CR2.out (kcells_u8 _ _ _ _ _)) (by simp only; rw [HNV.out]; exact OwnB.off HV2.out hg3 CR2.out (by decide)) hp); have he := hp.1; subst he; have G9 := Lib.hid (none_new G8.out hg3 (Nat.le_refl _)); clear hp hg3))
        go_roundw
        case rel => exact ⟨k + 1, by go_num, by omega, by rw [HFT.out]; exact RD.out, G9.out⟩
        case measure => first | (simp [intOf]; done) | (simp [intOf]; omega)
      · obtain rfl : k = fn := by omega
        have HmM : m = M := by rw [← Hm.out, List.take_of_length_le (by rw [HFN.out]; exact Nat.le_refl _), HMM.out]
        subst HmM
        clear hlt hk
        have RO := Lib.hid (R0.out.keptB GW.out)
        have TK1 := Lib.hid True.intro
        cases ok with
        | false =>
          go_wp2_with (first
            | (have hx := TK1; clear hx; refine wpList_loadC (off := 0) (p := kcells m T tc S sc) aggKr rfl (.tmp 6) rfl CR.out rfl (Nat.le_refl _) (by first | rfl | go_simp) ?_)
            | (go_at_call 9; refine (kwrite_any m T tc S sc wr.heap.size _ (HM.out.below (below_of_none GW.out)) KR.out (Nat.le_refl _) HLN.out.2 HLN.out.1).mono ?_; rw [HOK.out]; rintro e w4 ⟨g, h⟩; rw [if_neg (by simp)] at h; subst h; have HGX := Lib.hid (grown_trans' GW.out g); have HBZX := Lib.hid (BR.out.kept g); clear g TK1)
            | (refine wpList_storeC (off := 0) (p := kZero) aggKr.hi rfl (.tmp 2) (.tmp 41) rfl _ (by first | rfl | kernel_rfl) kZero_one HBZX.out rfl (by rw [kZeroL]; omega) (by first | rfl | go_simp) rfl ?_; intro wz hz gz; rw [over_all _ _ (Nat.le_refl _)] at hz; have GZ := Lib.hid (none_new HGX.out gz (Nat.le_refl _)); have CZ := Lib.hid hz; clear hz gz))
          exact bodyPost_ret (results_C2 rfl _ aggKr CZ.out rfl rfl rfl) rfl (RdKO.no (by rw [HRD.out]; rfl) GZ.out rfl)
        | true =>
          cases eq with
          | false =>
            go_wp2_with (first
              | (have hx := TK1; clear hx; refine wpList_loadC (off := 0) (p := kcells m T tc S sc) aggKr rfl (.tmp 6) rfl CR.out rfl (Nat.le_refl _) (by first | rfl | go_simp) ?_)
              | (go_at_call 9; refine (kwrite_any m T tc S sc wr.heap.size _ (HM.out.below (below_of_none GW.out)) KR.out (Nat.le_refl _) HLN.out.2 HLN.out.1).mono ?_; rw [HOK.out]; rintro e w4 ⟨g, h⟩; rw [if_pos rfl] at h; obtain ⟨v, rfl, bb⟩ := h; obtain ⟨A4, c4, rfl, r4⟩ := bb; rw [HY.out] at r4; rw [HY.out, HNY.out]; have R4 := Lib.hid r4; have HGX := Lib.hid (grown_trans' GW.out g); have HBZX := Lib.hid (BR.out.kept g); have C6X := Lib.hid (CR.out.kept g); have KX := Lib.hid (KR.out.keptK g); have RO4 := Lib.hid (RO.out.keptB g); clear g TK1 r4)
              | (go_at_call 23; refine (bytesEq_any A4 A Y l ny c4 n cap _ HNY.out HN.out R4.out RO4.out).mono ?_; rw [HEQ.out]; rintro e w5 ⟨rfl, rfl⟩)
              | (refine wpList_storeC (off := 0) (p := kZero) aggKr.hi rfl (.tmp 2) (.tmp 41) rfl _ (by first | rfl | kernel_rfl) kZero_one HBZX.out rfl (by rw [kZeroL]; omega) (by first | rfl | go_simp) rfl ?_; intro wz hz gz; rw [over_all _ _ (Nat.le_refl _)] at hz; have GZ := Lib.hid (none_new HGX.out gz (Nat.le_refl _)); have CZ := Lib.hid hz; clear hz gz))
            exact bodyPost_ret (results_C2 rfl _ aggKr CZ.out rfl rfl rfl) rfl (RdKO.no (by rw [HRD.out]; rfl) GZ.out rfl)
          | true =>
            go_wp2_with (first
              | (have hx := TK1; clear hx; refine wpList_loadC (off := 0) (p := kcells m T tc S sc) aggKr rfl (.tmp 6) rfl CR.out rfl (Nat.le_refl _) (by first | rfl | go_simp) ?_)
              | (go_at_call 9; refine (kwrite_any m T tc S sc wr.heap.size _ (HM.out.below (below_of_none GW.out)) KR.out (Nat.le_refl _) HLN.out.2 HLN.out.1).mono ?_; rw [HOK.out]; rintro e w4 ⟨g, h⟩; rw [if_pos rfl] at h; obtain ⟨v, rfl, bb⟩ := h; obtain ⟨A4, c4, rfl, r4⟩ := bb; rw [HY.out] at r4; rw [HY.out, HNY.out]; have R4 := Lib.hid r4; have HGX := Lib.hid (grown_trans' GW.out g); have HBZX := Lib.hid (BR.out.kept g); have C6X := Lib.hid (CR.out.kept g); have KX := Lib.hid (KR.out.keptK g); have RO4 := Lib.hid (RO.out.keptB g); have GXX := Lib.hid g; clear g TK1 r4)
              | (go_at_call 23; refine (bytesEq_any A4 A Y l ny c4 n cap _ HNY.out HN.out R4.out RO4.out).mono ?_; rw [HEQ.out]; rintro e w5 ⟨rfl, rfl⟩)
              | refine wpList_loadC (off := 0) (p := kcells m T tc S sc) aggKr rfl (.tmp 6) rfl C6X.out rfl (Nat.le_refl _) (by first | rfl | go_simp) ?_
              | (refine wpList_storeC (off := 0) (p := kcells m T tc S sc) aggKr.hi rfl (.tmp 2) (.tmp 42) rfl (.agg (kcells m T tc S sc).toArray) rfl (kcells_one _ _ _ _ _) HBZX.out rfl (Nat.le_refl _) (by first | rfl | go_simp) rfl ?_; intro wz hz gz; rw [over_all _ _ (show kZero.length ≤ (kcells m T tc S sc).length from Nat.le_refl 9)] at hz; have GZ := Lib.hid (none_new HGX.out gz (Nat.le_refl _)); have CZ := Lib.hid hz; have KZ := Lib.hid ((OR.out.none_ GXX.out).off gz HBZX.out); clear hz gz))
            exact bodyPost_ret (results_C2 rfl _ aggKr CZ.out rfl rfl rfl) rfl (RdKO.yes (ok := readsK l) (by rw [HRD.out]; rfl) GZ.out rfl KZ.out)
  · have HRN := Lib.hid (show readsK l = false by rw [readsK, hs]; simp [he])
    have he1 : (e0 == 0) = false := by simpa using he
    have HE := Lib.hid he
    clear hM hn hb h hs he
    go_enter Tryd.func6, Tryd.ntmps6
    go_wp2_with (first
      | refine wpList_allocC zeroKr rfl rfl ?_
      | (go_at_call 21; refine (split_any A l cap n _ HN.out RA.out (by have := HB.out; omega)).mono ?_; rw [HSP.out]; rintro e w1 ⟨v, rfl, o, b1⟩; have GV := Lib.hid (none_of_below b1 (Nat.le_refl _)); have HGX := Lib.hid (grown_trans' GA.out GV.out); have HBZX := Lib.hid (BA.out.kept GV.out); clear o b1)
      | (refine wpList_storeC (off := 0) (p := kZero) aggKr.hi rfl (.tmp 2) (.tmp 18) rfl _ (by first | rfl | kernel_rfl) kZero_one HBZX.out rfl (by rw [kZeroL]; omega) (by first | rfl | go_simp) rfl ?_; intro wz hz gz; rw [over_all _ _ (Nat.le_refl _)] at hz; have GZ := Lib.hid (none_new HGX.out gz (Nat.le_refl _)); have CZ := Lib.hid hz; clear hz gz))
    exact bodyPost_ret (results_C2 rfl _ aggKr CZ.out rfl rfl rfl) rfl (RdKO.no (HRN.out) GZ.out rfl)
end Go.Proofs.YtnfmbgmncdodkaaDoor
namespace Go.Proofs.YtnfmbgmncdodkaaDoor
open Go.RowKit
theorem refKRead_any (n cap : Nat) (A : Option Addr) (l : List UInt8) (w : World) (hn : l.length = n) (hb : n ≤ 10000) (h : RB w w.heap.size A l cap) :
    Calls Tryd.prog 7 #[.slice A n cap] w fun e w' => RdK w (readsK l) (madeK l) e w' := by
  obtain ⟨FS, e0, hs⟩ : ∃ FS e0, splitOf l = (FS, e0) := ⟨_, _, rfl⟩
  by_cases he : e0 = 0
  · subst he
    cases FS with
    | nil => exact refKRead_nil n cap A l w hn hb h hs
    | cons f FS =>
      obtain ⟨tg, v0⟩ := f
      by_cases ht : tg = 31
      · subst ht
        obtain ⟨q, b, hq⟩ : ∃ q b, readOf v0 = (q, b) := ⟨_, _, rfl⟩
        cases b with
        | false => exact refKRead_b n cap A l w hn hb h _ hs v0 rfl q hq
        | true =>
          by_cases h1 : q < 1
          · exact refKRead_lo n cap A l w hn hb h _ hs v0 rfl q hq h1
          · by_cases h7 : 7 < q
            · exact refKRead_hi n cap A l w hn hb h _ hs v0 rfl q hq h7
            · exact refKRead_go n cap A l w hn hb h _ hs v0 rfl (q : Int) (by omega) (by omega) (by rw [hq]; rfl)
      · exact refKRead_tag n cap A l w hn hb h _ hs tg v0 rfl ht
  · exact refKRead_e n cap A l w hn hb h FS e0 hs he
theorem sameK_me (m : Msg) : sameK m m = true := by simp [sameK]
/-- A byte is written into a row of bytes, or elsewhere. -/
theorem OwnB.setAny {w : World} {base : Nat} {e : TypeId} {v : Value} {l : List UInt8} (h : OwnB w base e v l) (g k : Nat) (u : UInt8) (x : Int) (hx : x = (u.toNat : Int)) : ∃ l' : List UInt8, l'.length = l.length ∧ OwnB (w.setCell ⟨g, k, none⟩ (.int .u8 x)) base e v l' := by
  subst hx
  have hgr : w.grownBy (w.setCell ⟨g, k, none⟩ (.int .u8 (u.toNat : Int))) (some g) := grown_set w g k _
  rcases h.2 with ⟨rfl, hl⟩ | ⟨g', cap, cur, rfl, hb, hg', hn, hm, hs, hc⟩
  · exact ⟨l, rfl, World.ownsRow.kept h hgr (.inl rfl)⟩
  · by_cases hgg : g' = g
    · subst hgg
      refine ⟨l.set k u, by simp, ?_, ?_⟩
      · rw [bcells_length]; simp
      · right
        refine ⟨g', cap, cur.setIfInBounds k (.int .u8 (u.toNat : Int)), ?_, hb, ?_, ?_, hm, ?_, ?_⟩
        · rw [List.length_set]
        · simp [World.setCell, Array.getElem?_modify, hg']
        · rw [List.length_set]; exact hn
        · rw [Array.size_setIfInBounds]; exact hs
        · rw [Array.toList_setIfInBounds, List.length_set, List.take_set, hc]
          simp [bcells, List.map_set]
    · exact ⟨l, rfl, World.ownsRow.kept h hgr (.inr (by intro he; injection he with he; exact hgg he))⟩
theorem OwnB.cellOf {w : World} {base n c : Nat} {e : TypeId} {T : Option Addr} {l : List UInt8} (h : OwnB w base e (.slice T n c) l) (hn : l.length = n) {k : Nat} (hk : k < n) :
    ∃ g, T = some ⟨g, 0, none⟩ ∧ base ≤ g ∧ g < w.heap.size ∧ (∃ x, w.cell? ⟨g, k, none⟩ = some x) ∧ w.frozen? ⟨g, k, none⟩ = false := by
  subst hn
  rcases h.2 with ⟨hv, hl⟩ | ⟨g', cap, cur, hv, hb, hg', _⟩
  · omega
  · injection hv with h1 h2 h3
    subst h1
    refine ⟨g', rfl, hb, (Array.getElem?_eq_some_iff.1 hg').1, ?_, ?_⟩
    · have hr := World.ownsRow.cellAt h k (by omega)
      exact ⟨_, hr.trans (List.getElem?_eq_getElem (by rw [bcells_length]; exact hk))⟩
    · exact World.ownsRow.frozenAt h k
/-- What lasts while a message's own bytes are spoilt. -/
def Spo (base gM hb : Nat) (X : List Value) (T : Option Addr) (nT tc : Nat) (S : Option Addr) (nS sc : Nat) (vb : Value) (l : List UInt8) (w0 wr : World) : Prop :=
  (∃ lT lS : List UInt8, lT.length = nT ∧ lS.length = nS ∧ OwnB wr base 5 (.slice T nT tc) lT ∧ OwnB wr base 5 (.slice S nS sc) lS) ∧ CB wr gM 26 X ∧ OwnB wr hb 5 vb l ∧ Below base w0 wr
theorem Spo.poke {base gM hb : Nat} {X : List Value} {T : Option Addr} {nT tc : Nat} {S : Option Addr} {nS sc : Nat} {vb : Value} {l : List UInt8} {w0 wr : World} (h : Spo base gM hb X T nT tc S nS sc vb l w0 wr) {g k : Nat} (h1 : base ≤ g) (h2 : g < gM) (h3 : gM < hb) :
    Spo base gM hb X T nT tc S nS sc vb l w0 (wr.setCell ⟨g, k, none⟩ (.int .u8 238)) := by
  obtain ⟨⟨lT, lS, a1, a2, a3, a4⟩, a5, a6, a7⟩ := h
  obtain ⟨lT', b1, b2⟩ := OwnB.setAny a3 g k 238 238 rfl
  obtain ⟨lS', c1, c2⟩ := OwnB.setAny a4 g k 238 238 rfl
  have hgr : wr.grownBy (wr.setCell ⟨g, k, none⟩ (.int .u8 238)) (some g) := grown_set wr g k _
  refine ⟨⟨lT', lS', by omega, by omega, b2, c2⟩, a5.grown hgr (by omega), World.ownsRow.kept a6 hgr ?_, a7.setCell h1 _⟩
  cases hv : vb.ownBlock with
  | none => exact .inl rfl
  | some j =>
    right
    intro he
    injection he with he
    have := (OwnB.lt a6 j hv).1
    omega
set_option maxRecDepth 10000 in
set_option maxHeartbeats 4000000 in
theorem walk_KrbReads (w : World) (hM : ML w) (A : Option Addr) (l : List UInt8) (cap : Nat) (h : RB w w.heap.size A l cap) :
    Calls Tryd.prog 3 #[.slice A l.length cap] w fun e w' => e = .returned (.bool true) ∧ Below w.heap.size w w' := by
  have HM := Lib.hid hM
  have H0 := Lib.hid h
  obtain ⟨n, hn⟩ : ∃ n, l.length = n := ⟨_, rfl⟩
  have HN := Lib.hid hn
  rw [hn]
  by_cases hb : 10000 < n
  · have hbi : (10000 : Int) < (n : Int) := by omega
    clear hM h hn hb
    go_enter Tryd.func3, Tryd.ntmps3
    go_wp2_with (go_at_call 5; refine (kspeaks_any _ HM.out).mono ?_; rintro e w1 ⟨rfl, g⟩; have G1 := Lib.hid g; clear g)
    go_ret
    exact ⟨rfl, below_of_none G1.out⟩
  have hbi : ¬ ((10000 : Int) < (n : Int)) := by omega
  have HB := Lib.hid (show n ≤ 10000 by omega)
  obtain ⟨r, hr⟩ : ∃ r, readsK l = r := ⟨_, rfl⟩
  have HR := Lib.hid hr
  obtain ⟨m, hm⟩ : ∃ m, madeK l = m := ⟨_, rfl⟩
  have HMD := Lib.hid hm
  have TK0 := Lib.hid True.intro
  cases r with
  | false =>
    clear hM h hn hb hr hm
    go_enter Tryd.func3, Tryd.ntmps3
    go_wp2_with (first
      | (go_at_call 5; refine (kspeaks_any _ HM.out).mono ?_; rintro e w1 ⟨rfl, g⟩; have G1 := Lib.hid g; clear g)
      | (at_builtin; have hx := TK0; clear hx; refine wpList_appB byteT rfl (.tmp 17) (.tmp 18) rfl (OwnB.new0 w1 w1.heap.size _ (Nat.le_refl _)) ((H0.out.keptB G1.out).alloc (Nat.le_refl _) _) rfl (by rw [HN.out]; rfl) (by rw [HN.out]; have := HB.out; simp; omega) (by simp) ?_; intro v2 w2 o2 g2 _ _; rw [List.nil_append] at o2; have gg := none_new (grown_alloc w1 (.cells #[] 5) none) g2 (Nat.le_refl _); have G2 := Lib.hid (grown_trans' G1.out gg); obtain ⟨A2, c2, rfl, r2, -⟩ := o2.shape; rw [HN.out]; have R2 := Lib.hid r2; clear o2 g2 gg r2 TK0; have TK1 := Lib.hid True.intro)
      | (go_at_call 6; have hx := TK1; clear hx; refine (kread_any n c2 A2 l _ (HM.out.below (below_of_none G2.out)) HN.out HB.out R2.out).mono ?_; intro e w3 h; obtain ⟨g, h⟩ := h; rw [if_neg (by rw [HR.out]; simp)] at h; subst h; have G3 := Lib.hid (grown_trans' G2.out g); have R3 := Lib.hid (R2.out.keptB g); clear g TK1; have TK2 := Lib.hid True.intro)
      | (have hx := TK2; clear hx; refine wpList_allocC zeroKr rfl rfl ?_; clear TK2; have TK3 := Lib.hid True.intro)
      | (have hx := TK3; clear hx; refine wpList_storeC (off := 0) (p := kZero) aggKr.hi rfl (.tmp 4) (.tmp 23) rfl (.agg kZero.toArray) rfl kZero_one (CB.new w3 26 kZero) kZeroL (by rw [kZeroL]; omega) (by first | rfl | go_simp) rfl ?_; intro w4 h g; rw [over_all _ _ (Nat.le_refl _)] at h; have gs := none_new (grown_alloc w3 (.cells kZero.toArray 26) none) g (Nat.le_refl _); have C4 := Lib.hid h; have G4 := Lib.hid (grown_trans' G3.out gs); have R4 := Lib.hid (R3.out.keptB gs); clear h g gs TK3; have TK4 := Lib.hid True.intro)
      | (go_at_call 7; have hx := TK4; clear hx; refine (refKRead_any n cap A l _ HN.out HB.out (H0.out.keptB G4.out)).mono ?_; intro e w5 h; obtain ⟨g, h⟩ := h; rw [if_neg (by rw [HR.out]; simp)] at h; subst h; have G5 := Lib.hid (grown_trans' G4.out g); have R5 := Lib.hid (R4.out.keptB g); have C5 := Lib.hid (C4.out.kept g); clear g TK4; have TK5 := Lib.hid True.intro)
      | (have hx := TK5; clear hx; refine wpList_allocC zeroKr rfl rfl ?_; clear TK5; have TK6 := Lib.hid True.intro)
      | (have hx := TK6; clear hx; refine wpList_storeC (off := 0) (p := kZero) aggKr.hi rfl (.tmp 6) (.tmp 28) rfl (.agg kZero.toArray) rfl kZero_one (CB.new w5 26 kZero) kZeroL (by rw [kZeroL]; omega) (by first | rfl | go_simp) rfl ?_; intro w6 h g; rw [over_all _ _ (Nat.le_refl _)] at h; have gs := none_new (grown_alloc w5 (.cells kZero.toArray 26) none) g (Nat.le_refl _); have D6 := Lib.hid h; have G6 := Lib.hid (grown_trans' G5.out gs); have R6 := Lib.hid (R5.out.keptB gs); have C6 := Lib.hid (C5.out.kept gs); clear h g gs TK6; have TK7 := Lib.hid True.intro)
      | (have hx := TK7; clear hx; refine wpList_loadCg (off := 0) (p := kZero) aggKr (by first | rfl | go_simp) (.tmp 4) rfl C6.out (by rw [List.drop_zero]; exact List.take_of_length_le (by rw [kZeroL]; exact Nat.le_refl _)) (by rw [kZeroL]; omega) (by first | rfl | go_simp) ?_; clear TK7; have TK8 := Lib.hid True.intro)
      | (have hx := TK8; clear hx; refine wpList_loadCg (off := 0) (p := kZero) aggKr (by first | rfl | go_simp) (.tmp 6) rfl D6.out (by rw [List.drop_zero]; exact List.take_of_length_le (by rw [kZeroL]; exact Nat.le_refl _)) (by rw [kZeroL]; omega) (by first | rfl | go_simp) ?_; clear TK8; have TK9 := Lib.hid True.intro)
      | (go_at_call 8; have hx := TK9; clear hx; refine (same_k mZero mZero none 0 none 0 none 0 none 0 w6.heap.size _ ⟨RB.nil_ _ _, RB.nil_ _ _⟩ ⟨RB.nil_ _ _, RB.nil_ _ _⟩ (Nat.le_refl _)).mono ?_; rw [sameK_me]; rintro e w7 ⟨rfl, g⟩; have q1 := run_strB byteT Tryd.underlying9 (R6.out.keptB g); have q2 := run_strB byteT Tryd.underlying9 ((H0.out.keptB G6.out).keptB g); rw [HN.out] at q1 q2; have G7 := Lib.hid (grown_trans' G6.out g); clear g TK9))
    go_ret
    exact ⟨rfl, below_of_none G7.out⟩
  | true =>
    have HOK := Lib.hid (show okK m = true by
      rw [← hm]
      unfold readsK at hr
      simp only [Bool.and_eq_true] at hr
      exact hr.2.1)
    have HBY := Lib.hid (show bytesK m = l by
      rw [← hm]
      unfold readsK at hr
      simp only [Bool.and_eq_true, decide_eq_true_eq] at hr
      exact hr.2.2)
    have HLN := Lib.hid (show lensK m ∧ m.no < 18446744073709551616 by
      rw [← hm]
      exact foldK_lens _ fun f hf => by
        have h1 := len_of_tot _ f hf
        have h2 := tot_splitOf l
        omega)
    obtain ⟨nT, hnT⟩ : ∃ n, m.t.length = n := ⟨_, rfl⟩
    obtain ⟨nS, hnS⟩ : ∃ n, m.sl.length = n := ⟨_, rfl⟩
    have HLT := Lib.hid hnT
    have HLS := Lib.hid hnS
    clear hM h hn hb hr hm hnT hnS
    go_enter Tryd.func3, Tryd.ntmps3
    go_wp2_with (first
      | (go_at_call 5; refine (kspeaks_any _ HM.out).mono ?_; rintro e w1 ⟨rfl, g⟩; have G1 := Lib.hid g; clear g)
      | (at_builtin; have hx := TK0; clear hx; refine wpList_appB byteT rfl (.tmp 17) (.tmp 18) rfl (OwnB.new0 w1 w1.heap.size _ (Nat.le_refl _)) ((H0.out.keptB G1.out).alloc (Nat.le_refl _) _) rfl (by rw [HN.out]; rfl) (by rw [HN.out]; have := HB.out; simp; omega) (by simp) ?_; intro v2 w2 o2 g2 _ _; rw [List.nil_append] at o2; have gg := none_new (grown_alloc w1 (.cells #[] 5) none) g2 (Nat.le_refl _); have G2 := Lib.hid (grown_trans' G1.out gg); obtain ⟨A2, c2, rfl, r2, -⟩ := o2.shape; rw [HN.out]; have R2 := Lib.hid r2; clear o2 g2 gg r2 TK0; have TK1 := Lib.hid True.intro)
      | (go_at_call 6; have hx := TK1; clear hx; refine (kread_own n c2 A2 l _ (HM.out.below (below_of_none G2.out)) HN.out HB.out R2.out).mono ?_; intro e w3 h; obtain ⟨g, h⟩ := h; rw [if_pos HR.out] at h; obtain ⟨T, tc, S, sc, rfl, o⟩ := h; rw [HMD.out] at o; rw [HMD.out]; obtain ⟨X, hX⟩ : ∃ X, kcells m T tc S sc = X := ⟨_, rfl⟩; rw [hX]; have HX := Lib.hid hX; have XL := Lib.hid (show X.length = 9 by rw [← hX]; rfl); have XO := Lib.hid (show ∀ u ∈ X, u.oneCell' = true by rw [← hX]; exact kcells_one m T tc S sc); have O3 := Lib.hid o; have G3 := Lib.hid (grown_trans' G2.out g); have R3 := Lib.hid (R2.out.keptB g); have GG3 := Lib.hid g; clear g o hX TK1; have TK2 := Lib.hid True.intro)
      | (have hx := TK2; clear hx; refine wpList_allocC zeroKr rfl rfl ?_; clear TK2; have TK3 := Lib.hid True.intro)
      | (have hx := TK3; clear hx; refine wpList_storeC (off := 0) (p := X) aggKr.hi rfl (.tmp 4) (.tmp 23) rfl (.agg X.toArray) rfl XO.out (CB.new w3 26 kZero) XL.out (by rw [kZeroL]; omega) (by first | rfl | go_simp) rfl ?_; intro w4 h g; rw [over_all _ _ (by rw [kZeroL, XL.out]; exact Nat.le_refl _)] at h; have gs := none_new (grown_alloc w3 (.cells kZero.toArray 26) none) g (Nat.le_refl _); have C4 := Lib.hid h; have G4 := Lib.hid (grown_trans' G3.out gs); have R4 := Lib.hid (R3.out.keptB gs); have GG4 := Lib.hid (grown_trans' GG3.out gs); have O4 := Lib.hid (O3.out.none_ gs); clear h g gs TK3; have TK4 := Lib.hid True.intro)
      | (go_at_call 7; have hx := TK4; clear hx; refine (refKRead_any n cap A l _ HN.out HB.out (H0.out.keptB G4.out)).mono ?_; intro e w5 h; obtain ⟨g, h⟩ := h; rw [if_pos HR.out] at h; obtain ⟨T9, tc9, S9, sc9, rfl, k9, -, -⟩ := h; rw [HMD.out] at k9; rw [HMD.out]; obtain ⟨Z, hZ⟩ : ∃ Z, kcells m T9 tc9 S9 sc9 = Z := ⟨_, rfl⟩; rw [hZ]; have HZ := Lib.hid hZ; have ZL := Lib.hid (show Z.length = 9 by rw [← hZ]; rfl); have ZO := Lib.hid (show ∀ u ∈ Z, u.oneCell' = true by rw [← hZ]; exact kcells_one m T9 tc9 S9 sc9); have K5 := Lib.hid k9; have G5 := Lib.hid (grown_trans' G4.out g); have R5 := Lib.hid (R4.out.keptB g); have C5 := Lib.hid (C4.out.kept g); have GG5 := Lib.hid (grown_trans' GG4.out g); have O5 := Lib.hid (O4.out.none_ g); clear g k9 hZ TK4; have TK5 := Lib.hid True.intro)
      | (have hx := TK5; clear hx; refine wpList_allocC zeroKr rfl rfl ?_; clear TK5; have TK6 := Lib.hid True.intro)
      | (have hx := TK6; clear hx; refine wpList_storeC (off := 0) (p := Z) aggKr.hi rfl (.tmp 6) (.tmp 28) rfl (.agg Z.toArray) rfl ZO.out (CB.new w5 26 kZero) ZL.out (by rw [kZeroL]; omega) (by first | rfl | go_simp) rfl ?_; intro w6 h g; rw [over_all _ _ (by rw [kZeroL, ZL.out]; exact Nat.le_refl _)] at h; have gs := none_new (grown_alloc w5 (.cells kZero.toArray 26) none) g (Nat.le_refl _); have D6 := Lib.hid h; have K6 := Lib.hid (KM.keptK K5.out gs); have G6 := Lib.hid (grown_trans' G5.out gs); have R6 := Lib.hid (R5.out.keptB gs); have C6 := Lib.hid (C5.out.kept gs); have GG6 := Lib.hid (grown_trans' GG5.out gs); have O6 := Lib.hid (O5.out.none_ gs); clear h g gs TK6; have TK7 := Lib.hid True.intro)
      | (have hx := TK7; clear hx; refine wpList_loadCg (off := 0) (p := X) aggKr (by first | rfl | go_simp) (.tmp 4) rfl C6.out (by rw [List.drop_zero]; exact List.take_of_length_le (by rw [XL.out]; exact Nat.le_refl _)) (by rw [XL.out]; omega) (by first | rfl | go_simp) ?_; clear TK7; have TK8 := Lib.hid True.intro)
      | (have hx := TK8; clear hx; refine wpList_loadCg (off := 0) (p := Z) aggKr (by first | rfl | go_simp) (.tmp 6) rfl D6.out (by rw [List.drop_zero]; exact List.take_of_length_le (by rw [ZL.out]; exact Nat.le_refl _)) (by rw [ZL.out]; omega) (by first | rfl | go_simp) ?_; clear TK8; have TK9 := Lib.hid True.intro)
      | (go_at_call 8; have hx := TK9; clear hx; rw [← HX.out, ← HZ.out]; refine (same_k m m T tc S sc T9 tc9 S9 sc9 w6.heap.size _ O6.out.km K6.out (Nat.le_refl _)).mono ?_; rw [sameK_me]; rintro e w7 ⟨rfl, g⟩; rw [HX.out]; have q1 := run_strB byteT Tryd.underlying9 (R6.out.keptB g); have q2 := run_strB byteT Tryd.underlying9 ((H0.out.keptB G6.out).keptB g); rw [HN.out] at q1 q2; have G7 := Lib.hid (grown_trans' G6.out g); have R7 := Lib.hid (R6.out.keptB g); have C7 := Lib.hid (C6.out.kept g); have GG7 := Lib.hid (grown_trans' GG6.out g); have O7 := Lib.hid (O6.out.none_ g); clear g TK9; have TK10 := Lib.hid True.intro)
      | (have hx := TK10; clear hx; refine wpList_loadC (off := 0) (p := X) aggKr rfl (.tmp 4) rfl C7.out (by rw [List.drop_zero]; exact List.take_of_length_le (by rw [XL.out]; exact Nat.le_refl _)) (by rw [XL.out]; omega) (by first | rfl | go_simp) ?_; clear TK10 q1 q2; have TK11 := Lib.hid True.intro)
      | (go_at_call 9; have hx := TK11; clear hx; rw [← HX.out]; refine (kwrite_own m T tc S sc w7.heap.size _ (HM.out.below (below_of_none G7.out)) O7.out.km (Nat.le_refl _) HLN.out.2 HLN.out.1).mono ?_; rw [HX.out, HOK.out, HBY.out]; rintro e w8 ⟨g, h⟩; rw [if_pos rfl] at h; obtain ⟨vb, rfl, ob⟩ := h; obtain ⟨Ab, cb, rfl, -, -⟩ := ob.shape; rw [HN.out] at ob; rw [HN.out]; have OB8 := Lib.hid ob; have G8 := Lib.hid (grown_trans' G7.out g); have GG8 := Lib.hid (grown_trans' GG7.out g); have O8 := Lib.hid (O7.out.none_ g); have C8 := Lib.hid (C7.out.kept g); have q6 := (C7.out.kept g).at_ (i := 6) (v := .slice T nT tc) (by rw [← HX.out, ← HLT.out]; rfl); clear g ob TK11))
    have hnT := HLT.out
    have hnS := HLS.out
    have hnTi : (nT : Int) ≤ 60000 := by have := HLN.out.1.2.2.1; omega
    have hnSi : (nS : Int) ≤ 60000 := by have := HLN.out.1.2.2.2; omega
    have o8 := O8.out
    have o3 := O3.out
    unfold O2 at o8 o3
    rw [hnT, hnS] at o8 o3
    have HTB := Lib.hid (show ∀ z, (Value.slice T nT tc).ownBlock = some z → z < w3.heap.size from fun z hz => (OwnB.lt o3.1 z hz).2)
    have HSB := Lib.hid (show ∀ z, (Value.slice S nS sc).ownBlock = some z → z < w3.heap.size from fun z hz => (OwnB.lt o3.2 z hz).2)
    have HGB := Lib.hid (show w3.heap.size < w7.heap.size from C7.out.lt)
    have SP := Lib.hid (show Spo w2.heap.size w3.heap.size w7.heap.size X T nT tc S nS sc (.slice Ab n cb) l w2 w8 from ⟨⟨m.t, m.sl, hnT, hnS, o8.1, o8.2⟩, C8.out, OB8.out, below_of_none GG8.out⟩)
    have HX6 := Lib.hid (show X[6]? = some (.slice T nT tc) by rw [← HX.out, ← hnT]; rfl)
    have HX7 := Lib.hid (show X[7]? = some (.slice S nS sc) by rw [← HX.out, ← hnS]; rfl)
    clear o8 o3 hnT hnS q6
    go_loopw [56] (fun i wr => ∃ k : Nat, i = .int .i64 k ∧ k ≤ nT ∧ Spo w2.heap.size w3.heap.size w7.heap.size X T nT tc S nS sc (.slice Ab n cb) l w2 wr) (fun i _ => nT - (intOf i).toNat)
    case atStart => exact ⟨0, rfl, Nat.zero_le _, SP.out⟩
    case round =>
      obtain ⟨k, rfl, hk, hsp⟩ := hrel
      have HSP := Lib.hid hsp
      obtain ⟨⟨lT, lS, a1, a2, a3, a4⟩, a5, a6, a7⟩ := hsp
      by_cases hlt : k < nT
      · obtain ⟨g, hT, hgb, -, ⟨x, hx⟩, hfz⟩ := OwnB.cellOf a3 a1 hlt
        have q6 := a5.at_ HX6.out
        rw [hT] at q6
        have hki : (k : Int) < (nT : Int) := by omega
        have HGG := Lib.hid (show w2.heap.size ≤ g ∧ g < w3.heap.size from ⟨hgb, HTB.out g (by rw [hT]; rfl)⟩)
        clear a1 a2 a3 a4 a5 a6 a7 hgb hT
        go_wp2
        go_roundw
        case rel => exact ⟨k + 1, by go_num, by omega, HSP.out.poke HGG.out.1 HGG.out.2 HGB.out⟩
        case measure => simp [intOf]; omega
      · have hki : ¬ (k : Int) < (nT : Int) := by omega
        have q7 := a5.at_ HX7.out
        clear a1 a2 a3 a4 a5 a6 a7 hlt hk
        go_wp2
        clear q7
        obtain ⟨wo, rfl⟩ : ∃ wo : World, wo = wr := ⟨_, rfl⟩
        go_loopw [67] (fun i wi => ∃ k : Nat, i = .int .i64 k ∧ k ≤ nS ∧ Spo w2.heap.size w3.heap.size w7.heap.size X T nT tc S nS sc (.slice Ab n cb) l w2 wi) (fun i _ => nS - (intOf i).toNat)
        case atStart => exact ⟨0, rfl, Nat.zero_le _, HSP.out⟩
        case round =>
          obtain ⟨j, rfl, hj, hsp⟩ := hrel
          have HSJ := Lib.hid hsp
          obtain ⟨⟨lT, lS, a1, a2, a3, a4⟩, a5, a6, a7⟩ := hsp
          by_cases hlt : j < nS
          · obtain ⟨g, hT, hgb, -, ⟨x, hx⟩, hfz⟩ := OwnB.cellOf a4 a2 hlt
            have q6 := a5.at_ HX7.out
            rw [hT] at q6
            have hji : (j : Int) < (nS : Int) := by omega
            have HGG := Lib.hid (show w2.heap.size ≤ g ∧ g < w3.heap.size from ⟨hgb, HSB.out g (by rw [hT]; rfl)⟩)
            clear a1 a2 a3 a4 a5 a6 a7 hgb hT
            go_wp2
            go_roundw
            case rel => exact ⟨j + 1, by go_num, by omega, HSJ.out.poke HGG.out.1 HGG.out.2 HGB.out⟩
            case measure => simp [intOf]; omega
          · have hji : ¬ (j : Int) < (nS : Int) := by omega
            obtain ⟨A', c', hv, rb, -⟩ := OwnB.shape a6
            injection hv with e1 e3 e2
            subst e1 e2
            have s1 := run_strB byteT Tryd.underlying9 rb
            have s2 := run_strB byteT Tryd.underlying9 ((H0.out.keptB G2.out).below a7)
            have s3 := run_strB byteT Tryd.underlying9 (R2.out.below a7)
            rw [HN.out] at s1 s2 s3
            have HBL := Lib.hid a7
            clear a1 a2 a3 a4 a5 a6 a7 hlt hj rb e3
            go_wp2
            go_ret
            exact ⟨rfl, (below_of_none G2.out).trans (HBL.out.mono G2.out.size)⟩
end Go.Proofs.YtnfmbgmncdodkaaDoor
