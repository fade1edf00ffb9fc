/- The walks of Values and SameTexts of the document's answer. -/
import Derived.Test.YtnaoagiphehcaaaDoorValW
namespace Go.Proofs.YtnaoagiphehcaaaDoor
open Go.RowKit

theorem below_drewN {B : Nat} {a w : World} (h : Below B a w) (n : Nat) : Below B a (w.drewN n) := ⟨h.os, h.tape, h.output, h.size, h.block⟩

set_option maxHeartbeats 1000000 in
theorem refValues_any (A : Option Addr) (l : List UInt8) (cap n : Nat) (T : Option Addr) (ts : List Int) (tc m : Nat) (w : World) (hn : l.length = n) (hm : ts.length = m) (h : RB w w.heap.size A l cap) (hT : RI w w.heap.size T ts tc) (hl : n ≤ 1000000) :
    Calls Tryd.prog 99 #[.slice A n cap, .slice T m tc] w fun e w' => ∃ v, e = .returned (.tuple #[v, .int .i64 (valuesOf l ts).2]) ∧ IsS w' v (valuesOf l ts).1 ∧ Below w.heap.size w w' := by
  subst hn hm
  have H := Lib.hid h
  have HT := Lib.hid hT
  clear h hT
  have hSp := fun W (hW : RB W W.heap.size A l cap) => refSplit_any A l cap l.length W rfl hW (by omega)
  have HSp := Lib.hid hSp
  clear hSp
  by_cases he : (splitOf l).2 = 0
  · have hez : ((splitOf l).2 == 0) = true := by rw [he]; rfl
    by_cases hlen : (splitOf l).1.length = ts.length
    · obtain ⟨fs, hfs⟩ : ∃ fs, fs = (splitOf l).1 := ⟨_, rfl⟩
      rw [← hfs] at hlen
      have hfl : fs.length ≤ 1000000 := by rw [hfs]; have := splitOf_len l; omega
      have HE := Lib.hid he
      have HFS := Lib.hid hfs
      have hle : ((fs.length : Int) != (ts.length : Int)) = false := by rw [hlen]; simp
      have hle2 : ((fs.length : Int) == (ts.length : Int)) = true := by rw [hlen]; simp
      have HLEN := Lib.hid hlen
      rw [he, ← hfs] at HSp
      clear hez hlen he hfs
      go_enter Tryd.func99, Tryd.ntmps99
      go_wp2_with (go_at_call 85; refine (HSp.out _ H.out).mono ?_; rintro e w1 ⟨v1, rfl, hown, hb1⟩; obtain ⟨F, fc, rfl, hrf, -⟩ := hown.shape; have HB1 := Lib.hid hb1; have HRF := Lib.hid hrf; clear hown hb1 hrf)
      go_loopw [8, 9] (fun v i wr => ∃ (k : Nat) (us : List Value), i = .int .i64 k ∧ k ≤ fs.length ∧ wr.ownsRow w1.heap.size 26 1 v us.length us ∧ Texts wr w1.heap.size us ((fs.map (·.2)).take k) ∧ Below w1.heap.size w1 wr ∧
        ∀ (j : Nat) (f : Fd) (t : Int), j < k → fs[j]? = some f → ts[j]? = some t → f.1 = t) (fun _ i _ => fs.length - (intOf i).toNat)
      case atStart => exact ⟨0, [], rfl, Nat.zero_le _, ⟨rfl, .inr ⟨w1.heap.size, 0, #[], rfl, Nat.le_refl _, heap_alloc_new w1 _, Nat.le_refl _, by simp [maxLen], rfl, rfl⟩⟩, Texts.nil_ _ _, (Below.refl _ _).alloc (Nat.le_refl _) _, fun j f t hj => by omega⟩
      case round =>
        obtain ⟨k, us, rfl, hk, hown, htx, hbel, htg⟩ := hrel
        have hbs := hbel.size
        by_cases hlt : k < fs.length
        · have hlt2 : k < ts.length := by have := HLEN.out; omega
          obtain ⟨f, hf⟩ : ∃ f, fs[k]? = some f := ⟨_, List.getElem?_eq_getElem hlt⟩
          obtain ⟨b, off, rfl, hb, hc⟩ := HRF.out.open_ (by omega)
          obtain ⟨tb, to, rfl, htb, htc⟩ := HT.out.open_ (by omega)
          obtain ⟨c1', V, c, c2', hV⟩ := hc k f hf
          have c1 := (hbel.cell (p := ⟨b, off + k * 2, none⟩) hb).trans c1'
          have c2 := (hbel.cell (p := ⟨b, off + k * 2 + 1, none⟩) hb).trans c2'
          have c3 := ((HB1.out.trans (hbel.mono HB1.out.size)).cell (p := ⟨tb, to + k, none⟩) htb).trans (htc k hlt2)
          have hki : (k : Int) < (fs.length : Int) := by omega
          have hki2 : (k : Int) < (ts.length : Int) := by omega
          have HTX := Lib.hid htx
          have HTG := Lib.hid htg
          have HOWN := Lib.hid hown
          have HBEL := Lib.hid hbel
          have HV := Lib.hid (hV.below hbel)
          have hus : us.length = k := by rw [htx.1, List.length_take, List.length_map]; omega
          have HUS := Lib.hid hus
          clear hus htx htg hown hbel hc htc hV c1' c2'
          by_cases hx : f.1 = ts[k]
          · have hxe : (f.1 != ts[k]) = false := by rw [hx]; simp
            have HX := Lib.hid hx
            have HF := Lib.hid hf
            clear hx hf
            obtain ⟨x, bs⟩ := f
            simp only at c1 c2 hxe HX
            have hT2 : ts[k]? = some ts[k] := List.getElem?_eq_getElem hlt2
            have HT2 := Lib.hid hT2
            clear hT2
            generalize ts[k] = t at *
            go_wp2
            go_quiet (fail)
            go_wp2_with (at_builtin; refine wpList_appS Tryd.underlying105 textsInfo rfl (.tmp 43) (.tmp 49) rfl (base := w1.heap.size) (World.ownsRow.alloc HOWN.out _) rfl (cell_of_row _ _ 0 _ _ _ (heap_alloc_new _ _)) rfl rfl ?ga ?gb ?_; rotate_left 2; intro v2 w2 hown2 hg2; have hn2 := World.ownsRow.lt HOWN.out)
            go_roundw
            case rel =>
              have hB : Below w1.heap.size w1 w2 := Below.grown ((below_drewN HBEL.out _).alloc hbs _) hg2 (by simp; omega) (fun q hq => (hn2 q hq).1)
              refine ⟨k + 1, _, by go_num, by omega, hown2, ?_, hB, fun j f' t' hj hf' ht' => ?_⟩
              · have h1 := (HTX.out.keep (w' := w2) (fun a ha => by rw [hB.cell ha, HBEL.out.cell ha])).snoc (b := bs) ((HV.out.below (Below.refl w1.heap.size wr)).keep (w' := w2) (fun a ha => by rw [hB.cell ha, HBEL.out.cell ha]))
                have h2 : (fs.map (·.2)).take (k + 1) = (fs.map (·.2)).take k ++ [bs] := by
                  rw [List.take_add_one, List.getElem?_map, HF.out]
                  rfl
                rw [h2]
                exact h1
              · by_cases e : j = k
                · subst e
                  rw [HF.out] at hf'
                  rw [HT2.out] at ht'
                  injection hf' with hf'
                  injection ht' with ht'
                  subst hf' ht'
                  exact HX.out
                · exact HTG.out j f' t' (by omega) hf' ht'
            case measure => simp [intOf]; omega
            case ga => have := HUS.out; omega
            case gb => simp; omega
          · have hv := valuesOf_tag (ts := ts) HE.out (by rw [← HFS.out]; exact hf) (List.getElem?_eq_getElem hlt2) hx
            have HVV := Lib.hid hv
            have hxe : (f.1 != ts[k]) = true := by rw [bne_iff_ne]; exact hx
            have hxe2 : (f.1 == ts[k]) = false := by rw [beq_eq_false_iff_ne]; exact hx
            clear hx hf hv
            obtain ⟨x, bs⟩ := f
            simp only at c1 c2 hxe hxe2
            generalize ts[k] = t at *
            go_wp2
            go_quiet (fail)
            go_wp2
            go_ret2
            exact ⟨_, by rw [HVV.out]; rfl, by rw [HVV.out]; exact IsS.new0 _ _, HB1.out.trans (((below_drewN HBEL.out _).alloc hbs _).mono HB1.out.size)⟩
        · have hkl : k = fs.length := by omega
          have hl2 := HLEN.out
          have hv : valuesOf l ts = (fs.map (·.2), 0) := by
            have := valuesOf_all (ts := ts) HE.out (by rw [← HFS.out]; exact hl2) (fun j f t hj hf ht => htg j f t (by omega) (by rw [← HFS.out] at hf; exact hf) ht)
            rw [this, ← HFS.out]
          rw [List.take_of_length_le (by rw [List.length_map]; omega)] at htx
          have HV := Lib.hid hv
          have HS := Lib.hid (IsS.of_own htx hown hbs)
          have HB := Lib.hid (HB1.out.trans (hbel.mono HB1.out.size))
          clear hv hown htx htg hl2 hbel
          go_wp2
          go_ret2
          exact ⟨_, by rw [HV.out]; rfl, by rw [HV.out]; exact HS.out, HB.out⟩
    · have hv := valuesOf_len he hlen
      have HV := Lib.hid hv
      have hne : (((splitOf l).1.length : Int) == (ts.length : Int)) = false := by rw [beq_eq_false_iff_ne]; omega
      rw [he] at HSp
      clear hv hlen he hez
      generalize (splitOf l).1 = fs at *
      go_enter Tryd.func99, Tryd.ntmps99
      go_wp2_with (go_at_call 85; refine (HSp.out _ H.out).mono ?_; rintro e w1 ⟨v1, rfl, hown, hb1⟩; obtain ⟨F, fc, rfl, hrf, -⟩ := hown.shape; have HB1 := Lib.hid hb1; clear hown hb1 hrf)
      go_ret2
      exact ⟨_, by rw [HV.out]; rfl, by rw [HV.out]; exact IsS.new0 _ _, HB1.out.alloc HB1.out.size _⟩
  · have hv := valuesOf_err (ts := ts) he
    have hne : ((splitOf l).2 == 0) = false := by rw [beq_eq_false_iff_ne]; exact he
    have HV := Lib.hid hv
    clear hv he
    generalize (splitOf l).2 = ec at *
    go_enter Tryd.func99, Tryd.ntmps99
    go_wp2_with (go_at_call 85; refine (HSp.out _ H.out).mono ?_; rintro e w1 ⟨v1, rfl, hown, hb1⟩; obtain ⟨F, fc, rfl, hrf, -⟩ := hown.shape; have HB1 := Lib.hid hb1; clear hown hb1 hrf)
    go_ret2
    exact ⟨_, by rw [HV.out]; rfl, by rw [HV.out]; exact IsS.new0 _ _, HB1.out.alloc HB1.out.size _⟩
end Go.Proofs.YtnaoagiphehcaaaDoor
