/- The walk of krb.Write. -/
import Derived.Test.YtnaoagiphehcaaaDoorKrc
namespace Go.Proofs.YtnaoagiphehcaaaDoor
open Go.RowKit

theorem apart_of {wr : World} {v : Value} {fs : List Fd} {base B h0 : Nat} {V : Option Addr} {L : List UInt8} (hown : OwnR wr base v fs) (ap : ∀ a, V = some a → L = [] ∨ a.block < B ∨ wr.heap.size ≤ a.block) (hB : B ≤ h0) (hb : h0 ≤ base) : ∀ a, V = some a → L = [] ∨ v.ownBlock ≠ some a.block := by
  refine fun a ha => (ap a ha).imp id fun h => ?_
  intro he
  have h1 := hown.lt _ he
  omega
set_option maxRecDepth 10000 in
set_option maxHeartbeats 2000000 in
theorem kwrite_any (m : Msg) (T : Option Addr) (tc : Nat) (S : Option Addr) (sc B : Nat) (w : World) (hM : ML w) (h : KM w B m T tc S sc) (hB : B ≤ w.heap.size) (hno : m.no < 18446744073709551616) (hl : lensK m) :
    Calls Tryd.prog 31 #[.agg (kcells m T tc S sc).toArray] w fun e w' => Wrote w (okK m) (bytesK m) e w' := by
  have HM := Lib.hid hM
  have HK := Lib.hid h
  have HB := Lib.hid hB
  have HNO := Lib.hid hno
  have HL := Lib.hid hl
  have HC := Lib.hid (show m.c.size ≤ 1000000 by have := hl.1; omega)
  have HS := Lib.hid (show m.s.size ≤ 1000000 by have := hl.2.1; omega)
  have B0 := Lib.hid (CB.new w 59 (kcells m T tc S sc))
  have G0 := Lib.hid (grown_alloc w (.cells (kcells m T tc S sc).toArray 59) none)
  obtain ⟨ok, hok⟩ : ∃ b, okK m = b := ⟨_, rfl⟩
  have HOK := Lib.hid hok
  rw [hok]
  have TK0 := Lib.hid True.intro
  cases ok with
  | false =>
    clear hM h hB hno hl hok
    go_enter Tryd.func31, Tryd.ntmps31
    go_wp2_with (first
      | refine wpList_loadC (off := 0) (p := kcells m T tc S sc) aggKm rfl (.tmp 1) rfl B0.out rfl (by rw [kcells_length]; omega) (by first | rfl | go_simp) ?_
      | (go_at_call 33; refine (check_k m T tc S sc B _ (HM.out.below (below_of_none G0.out)) (HK.out.kept G0.out HB.out) (Nat.le_trans HB.out G0.out.size) HNO.out HC.out HS.out).mono ?_; rw [HOK.out, if_neg (by simp)]; rintro e w1 ⟨rfl, g⟩; have G1 := Lib.hid (grown_trans' G0.out g); clear g))
    go_ret2
    exact Wrote.no rfl G1.out
  | true =>
    obtain ⟨ks, hks⟩ : ∃ ks, tagsK m.kd = ks := ⟨_, rfl⟩
    have HKS := Lib.hid hks
    obtain ⟨n, hn⟩ : ∃ n, ks.length = n := ⟨_, rfl⟩
    have HN := Lib.hid hn
    have HN7 := Lib.hid (show n ≤ 7 by rw [← hn, ← hks]; exact tagsK_length _)
    have HNP := Lib.hid (show 0 < n by rw [← hn, ← hks]; exact List.length_pos_iff.2 (okK_tags hok))
    obtain ⟨FS, hfs⟩ : ∃ F, fieldsK m = F := ⟨_, rfl⟩
    have HFS := Lib.hid hfs
    have HFL := Lib.hid (show FS.length = n by rw [← hfs, fieldsK, List.length_map, hks, hn])
    have HFA := Lib.hid (show ∀ k t, ks[k]? = some t → FS[k]? = some (t, valK m t) from fun k t ht => by rw [← hfs, fieldsK, List.getElem?_map, hks, ht]; rfl)
    have HTI := Lib.hid (show ∀ t ∈ ks, 31 ≤ t ∧ t ≤ 39 from fun t ht => tagsK_in m.kd t (by rw [hks]; exact ht))
    have HJ := Lib.hid (show joinOf FS [] = (bytesK m, 0) by rw [← hfs]; exact joinOf_ok _ [] (fieldsK_chk m hl))
    have HTOT := Lib.hid (show tot FS ≤ 1000000 by rw [← hfs]; exact fieldsK_tot m hl)
    have HTR := Lib.hid (show ∀ f ∈ FS, -9223372036854775808 ≤ f.1 ∧ f.1 ≤ 9223372036854775807 from fun f hf => by
      rw [← hfs] at hf
      obtain ⟨t, ht, rfl⟩ := List.mem_map.1 hf
      have := tagsK_in _ _ ht
      simp only
      omega)
    clear hM h hB hno hl hok hks hn hfs
    go_enter Tryd.func31, Tryd.ntmps31
    go_wp2_with (first
      | refine wpList_loadC (off := 0) (p := kcells m T tc S sc) aggKm rfl (.tmp 1) rfl B0.out rfl (by rw [kcells_length]; omega) (by first | rfl | go_simp) ?_
      | (go_at_call 33; refine (check_k m T tc S sc B _ (HM.out.below (below_of_none G0.out)) (HK.out.kept G0.out HB.out) (Nat.le_trans HB.out G0.out.size) HNO.out HC.out HS.out).mono ?_; rw [HOK.out, if_pos rfl]; rintro e w1 ⟨rfl, g⟩; have G1 := Lib.hid (grown_trans' G0.out g); have B1 := Lib.hid (B0.out.kept g); have q1 := B1.out.at_ (i := 0) (v := .int .i64 m.kd) rfl; clear g)
      | (go_at_call 75; refine (tagsOf_any m.kd _).mono ?_; rintro e w2 ⟨v, rfl, hi, g⟩; rw [HKS.out] at hi; obtain ⟨A, c, rfl, hr⟩ := hi; rw [HN.out]; have G2 := Lib.hid (grown_trans' G1.out g); have B2 := Lib.hid (B1.out.kept g); have R2 := Lib.hid hr; clear g hr q1))
    obtain ⟨b, off, hA, hbk, hcell⟩ := R2.out.open_ (by rw [HN.out]; exact HNP.out)
    subst hA
    have HBK := Lib.hid hbk
    have HCE := Lib.hid hcell
    clear hbk hcell
    go_loopw [5, 17] (fun v i wr => ∃ k : Nat, i = .int .i64 k ∧ k ≤ n ∧ OwnR wr w2.heap.size v (FS.take k) ∧ w2.grownBy wr none) (fun _ i _ => n - (intOf i).toNat)
    case atStart => exact ⟨0, rfl, Nat.zero_le _, OwnR.nil_ _ _, World.grownBy.refl _ _⟩
    case round =>
      obtain ⟨k, rfl, hk, hown, hg⟩ := hrel
      have HOWN := Lib.hid hown
      have GR := Lib.hid hg
      have BR := Lib.hid (B2.out.kept hg)
      have G3 := Lib.hid (grown_trans' G2.out hg)
      have SR := Lib.hid hg.size
      clear hown hg
      by_cases hlt : k < n
      · have hlti : (k : Int) < (n : Int) := by omega
        have hn7 : (n : Int) ≤ 7 := by have := HN7.out; omega
        have hkl : k < ks.length := by rw [HN.out]; exact hlt
        obtain ⟨tg, htg⟩ : ∃ t, ks[k] = t := ⟨_, rfl⟩
        have hat : ks[k]? = some tg := by rw [List.getElem?_eq_getElem hkl, htg]
        have HTG := Lib.hid (HTI.out tg (by rw [← htg]; exact List.getElem_mem hkl))
        obtain ⟨L, hL⟩ : ∃ L, valK m tg = L := ⟨_, rfl⟩
        have HLL := Lib.hid hL
        obtain ⟨nl, hnl⟩ : ∃ n, L.length = n := ⟨_, rfl⟩
        have HNL := Lib.hid hnl
        have HTK := Lib.hid (show FS.take (k + 1) = FS.take k ++ [(tg, L)] by
          have h1 := HFA.out k tg hat
          rw [hL] at h1
          rw [List.take_add_one, h1]
          rfl)
        have hq : wr.cell? ⟨b, off + k, none⟩ = some (.int .i64 tg) := by
          rw [(below_of_none GR.out).cell (p := ⟨b, off + k, none⟩) HBK.out, HCE.out k hkl, htg]
        have HLEN := Lib.hid (show (FS.take k).length ≤ 1000000 by rw [List.length_take]; have := HN7.out; omega)
        clear htg hat hL hnl hkl
        go_wp2_with (first
          | refine wpList_loadC (off := 0) (p := kcells m T tc S sc) aggKm rfl (.tmp 1) rfl BR.out rfl (by rw [kcells_length]; omega) (by first | rfl | go_simp) ?_
          | (go_at_call 76; refine (valueOf_any tg HTG.out.1 HTG.out.2 m T tc S sc B _ (HK.out.kept G3.out HB.out) (Nat.le_trans HB.out G3.out.size) HNO.out (by have := HC.out; omega) (by have := HS.out; omega)).mono ?_; rw [HLL.out]; rintro e w3 ⟨V, vc, rfl, r, ap, g⟩; rw [HNL.out]; have RV := Lib.hid r; have AP := Lib.hid ap; have GV := Lib.hid g; have OV := Lib.hid (HOWN.out.kept g); have SV := Lib.hid (Nat.le_trans SR.out g.size); have AP2 := Lib.hid (apart_of HOWN.out ap HB.out G2.out.size); clear r ap g)
          | (at_builtin; refine wpList_appLit fieldT rfl (.tmp 21) (.tmp 27) rfl HNL.out OV.out RV.out AP2.out rfl (by first | rfl | go_simp) HLEN.out SV.out ?_; intro v4 w4 o4 g4; have hne := OV.out.lt; have O4 := Lib.hid o4; have G4 := Lib.hid (grownR (grown_trans' (grown_trans' GR.out GV.out) (grown_alloc w3 _ none)) g4 (fun x hx => (hne x hx).1)); clear o4 g4 hne))
        go_roundw
        case rel => exact ⟨k + 1, by go_num, by omega, by rw [HTK.out]; exact O4.out, G4.out⟩
        case measure => first | (simp [intOf]; done) | (simp [intOf]; omega)
      · obtain rfl : k = n := by omega
        have HALL := Lib.hid (show FS.take k = FS from List.take_of_length_le (by rw [HFL.out]; exact Nat.le_refl _))
        rw [HALL.out] at HOWN
        obtain ⟨FA, fc, rfl, rf⟩ := HOWN.out.shape
        have RFF := Lib.hid rf
        rw [HFL.out]
        clear rf hk hlt
        go_wp2_with (go_at_call 77; have hj := join_any FA FS fc _ RFF.out HTR.out (by have := HTOT.out; omega); rw [HFL.out] at hj; refine hj.mono ?_; rw [HJ.out]; rintro e w5 ⟨v5, rfl, o5, b5⟩; have O5 := Lib.hid o5.isB; have G5 := Lib.hid (grown_trans' G3.out (none_of_below b5 (Nat.le_refl _))); clear o5 b5 hj)
        go_ret2
        exact Wrote.yes O5.out G5.out
end Go.Proofs.YtnaoagiphehcaaaDoor
