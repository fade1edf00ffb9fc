/- The walk of TlvParts. -/
import Derived.Test.YtmkdcnhhcfblgaaPrt
namespace Go.Proofs.Ytmkdcnhhcfblgaa
open Go.RowKit

set_option maxHeartbeats 1000000 in
theorem walk_TlvParts (w : World) (A : Option Addr) (a : List UInt8) (cap : Nat) (h : RB w w.heap.size A a cap) (A' : Option Addr) (b : List UInt8) (cap' : Nat) (h' : RB w w.heap.size A' b cap') :
    Calls Try.prog 8 #[.slice A a.length cap, .slice A' b.length cap'] w fun e w' => e = .returned (.bool true) ∧ Below w.heap.size w w' := by
  have hl : a.length ≤ 9223372036854775807 := Nat.le_trans h.1 h.2.1
  have hl' : b.length ≤ 9223372036854775807 := Nat.le_trans h'.1 h'.2.1
  have H := Lib.hid h
  have H' := Lib.hid h'
  clear h h'
  by_cases hbig : 10000 < a.length
  · go_enter Try.func8, Try.ntmps8
    go_wp2_with (go_at_call 10; refine (speaks_any _).mono ?_; rintro e w1 ⟨rfl, hb1⟩)
    go_ret
    exact ⟨rfl, hb1⟩
  by_cases hbig' : 10000 < b.length
  · go_enter Try.func8, Try.ntmps8
    go_wp2_with (go_at_call 10; refine (speaks_any _).mono ?_; rintro e w1 ⟨rfl, hb1⟩)
    go_ret
    exact ⟨rfl, hb1⟩
  have hc1 : decide (10000 < (a.length : Int)) = false := by simp; omega
  have hc2 : decide (10000 < (b.length : Int)) = false := by simp; omega
  go_enter Try.func8, Try.ntmps8
  go_wp2_with (go_at_call 10; refine (speaks_any _).mono ?_; rintro e w1 ⟨rfl, hb1⟩)
  refine (split_any A a cap a.length w1 rfl ((H.out.below hb1).more hb1.size) (by omega)).mono ?_
  rintro e w2 ⟨x, rfl, hx, hb2'⟩
  have hb2 := hb1.trans (hb2'.mono hb1.size)
  have HX := Lib.hid hx
  clear hx hb2' hb1
  go_wp2_with fail
  refine (split_any A' b cap' b.length w2 rfl ((H'.out.below hb2).more hb2.size) (by omega)).mono ?_
  rintro e w3 ⟨y, rfl, hy, hb3'⟩
  have hb3 := hb2.trans (hb3'.mono hb2.size)
  have HX3 := Lib.hid (HX.out.below hb3')
  have HY := Lib.hid hy
  have hs3 := hb3.size
  clear hy hb3' hb2 HX
  go_wp2_with (first
    | (at_builtin
       refine wpList_appB byteT rfl (.tmp 32) (.tmp 33) rfl (OwnB.new0 _ w.heap.size _ hs3) ((H.out.below hb3).alloc hs3 _) rfl rfl (by simp; omega) (by simp; omega) ?_
       intro v4 w4 hown4 hg4 _ hat4
       rw [List.nil_append] at hown4
       have hb4 : Below w.heap.size w w4 := (hb3.alloc hs3 _).grown hg4 (by simp; omega) (fun k hk => by simp [Value.ownBlock] at hk; omega)
       have hb34 : Below w3.heap.size w3 w4 := ((Below.refl _ _).alloc (Nat.le_refl _) _).grown hg4 (by simp) (fun k hk => by simp [Value.ownBlock] at hk; omega)
       have hv4 : ∀ k, v4.ownBlock = some k → w3.heap.size ≤ k := fun k hk => by rcases hat4 with e | e <;> rw [e] at hk <;> simp [Value.ownBlock] at hk <;> omega
       have HO4 := Lib.hid hown4
       have HB34 := Lib.hid hb34
       have HV4 := Lib.hid hv4
       have hs4 := hb4.size
       clear hown4 hg4 hat4 hb34 hv4)
    | (at_builtin
       refine wpList_appB byteT rfl (.tmp 34) (.tmp 35) rfl HO4.out (H'.out.below hb4) rfl rfl (by omega) hs4 ?_
       intro v5 w5 hown5 hg5 _ hat5))
  have hb5 : Below w.heap.size w w5 := hb4.grown hg5 hs4 (fun k hk => (HO4.out.lt k hk).1)
  have hb35 : Below w3.heap.size w3 w5 := HB34.out.grown hg5 HB34.out.size (fun k hk => HV4.out k hk)
  obtain ⟨A5, c5, rfl, hr5, -⟩ := hown5.shape
  have hs5 := hb5.size
  have HX5 := Lib.hid (HX3.out.below hb35)
  have HY5 := Lib.hid (HY.out.below hb35)
  have hs35 := hb35.size
  have HS := Lib.hid (split_any A5 (a ++ b) c5 (a ++ b).length w5 rfl hr5 (by rw [List.length_append]; omega))
  clear hown5 hg5 hat5 hr5 HO4 HB34 HV4 hb35 HX3 HY hb4 hb3
  refine HS.out.mono ?_
  rintro e w6 ⟨z, rfl, hz, hb6'⟩
  have hb6 := hb5.trans (hb6'.mono hs5)
  have HX6 := Lib.hid (HX5.out.below hb6')
  have HY6 := Lib.hid (HY5.out.below hb6')
  have HZ := Lib.hid hz
  have hs6 := hb6.size
  have hs56 := hb6'.size
  clear HS hz hb6' HX5 HY5 hb5
  rcases splitOf_err a with ha | ha | ha
  · have hab := splitOf_app a b ha
    rcases splitOf_err b with hb | hb | hb
    · rw [if_pos hb] at hab
      rw [hab] at HZ ⊢
      rw [ha, hb]
      obtain ⟨X, cx, rfl, hrx, -⟩ := HX6.out.shape
      obtain ⟨Y, cy, rfl, hry, -⟩ := HY6.out.shape
      obtain ⟨Z, cz, rfl, hrz, -⟩ := HZ.out.shape
      have hlx := splitOf_len a
      have hly := splitOf_len b
      generalize (splitOf a).1 = fx at *
      generalize (splitOf b).1 = fy at *
      have HRX := Lib.hid hrx
      have HRY := Lib.hid hry
      have HRZ := Lib.hid hrz
      clear ha hb hab hrx hry hrz HX6 HY6 HZ
      have hlz : (fx ++ fy).length = fx.length + fy.length := List.length_append
      go_wp2_with (first
        | (at_builtin
           refine wpList_appFs fieldT (by rfl) (.tmp 63) (.tmp 64) rfl (RowF.new0 w6 w6.heap.size w6.heap.size _ (Nat.le_refl _)) (HRX.out.below ((Below.refl _ _).alloc (Nat.le_refl _) _)) rfl rfl (by simp; omega) (by simp) (Nat.le_refl _) ?_
           intro v7 w7 hown7 hg7
           rw [List.nil_append] at hown7
           have hb67 : Below w6.heap.size w6 w7 := ((Below.refl _ _).alloc (Nat.le_refl _) _).grown hg7 (by simp) (fun k hk => by simp [Value.ownBlock] at hk; omega)
           have HO7 := Lib.hid hown7
           have HB67 := Lib.hid hb67
           have hs7 := hb67.size
           clear hown7 hg7 hb67)
        | (at_builtin
           refine wpList_appFs fieldT (by rfl) (.tmp 65) (.tmp 66) rfl HO7.out (HRY.out.below HB67.out) rfl rfl (by omega) hs7 (Nat.le_refl _) ?_
           intro v8 w8 hown8 hg8))
      have hb68 : Below w6.heap.size w6 w8 := HB67.out.grown hg8 hs7 (fun k hk => (HO7.out.lt k hk).1)
      have hs8 := hb68.size
      obtain ⟨A8, c8, rfl, hr8⟩ := hown8.shape hs8
      refine (same_any Z A8 (fx ++ fy) cz c8 (fx.length + fy.length) (fx ++ fy).length w8.heap.size w8 hlz rfl ((HRZ.out.below hb68).more hs8) hr8 (Nat.le_refl _)).mono ?_
      rintro e w9 ⟨rfl, hb9⟩
      have hend := hb6.trans ((hb68.trans (hb9.mono hs8)).mono hs6)
      clear hown8 hg8 hr8 hb9 hb68
      go_wp2
      go_ret
      exact ⟨rfl, hend⟩
    · rw [hb] at hab
      rw [if_neg (by decide)] at hab
      rw [hab] at HZ ⊢
      rw [ha, hb]
      obtain ⟨Z, cz, rfl, -, -⟩ := HZ.out.shape
      clear ha hb hab
      go_wp2
      go_ret
      exact ⟨rfl, hb6⟩
    · rw [hb] at hab
      rw [if_neg (by decide)] at hab
      rw [hab] at HZ ⊢
      rw [ha, hb]
      obtain ⟨Z, cz, rfl, -, -⟩ := HZ.out.shape
      clear ha hb hab
      go_wp2
      go_ret
      exact ⟨rfl, hb6⟩
  · rw [ha]
    clear ha
    generalize (splitOf (a ++ b)).2 = zz at *
    generalize (splitOf b).2 = yy at *
    go_wp2
    go_ret
    exact ⟨rfl, hb6⟩
  · have hab := splitOf_app21 a b ha
    rw [hab] at HZ ⊢
    rw [ha]
    clear ha hab
    generalize (splitOf b).2 = yy at *
    go_wp2
    go_ret
    exact ⟨rfl, hb6⟩
end Go.Proofs.Ytmkdcnhhcfblgaa
