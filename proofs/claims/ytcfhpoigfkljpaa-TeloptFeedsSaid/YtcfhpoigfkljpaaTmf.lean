/- The walk of the document's Between. -/
import Derived.Test.YtcfhpoigfkljpaaTme
namespace Go.Proofs.Ytcfhpoigfkljpaa
open Go.ChangeShapes Go.WideShapes Go.RowKit
set_option linter.unusedVariables false

set_option maxRecDepth 20000 in
set_option maxHeartbeats 8000000 in
theorem between_any {w : World} {b bb : Nat} {vs : List Value} {v : Value} {ps : List (Tl × Nat)} (h : OwnQ w b bb vs v ps) (hbb : bb ≤ w.heap.size) (hn : ps.length ≤ 1000000) (f t : Nat) (hs : sumD (selF ps f t) ≤ 1000000000000) (hp2 : ∀ p ∈ ps, p.2 ≤ 1000000) :
    Calls Try.prog 15 #[v, .int .i64 (f : Int), .int .i64 (t : Int)] w fun e w' => PutR w w' bb (selF ps f t) e := by
  obtain ⟨A, cap, rfl, -, -, hA, hA2⟩ := h.shape
  obtain ⟨n, hnn⟩ : ∃ n, ps.length = n := ⟨_, rfl⟩
  rw [hnn] at hA hA2 hn ⊢
  have H := Lib.hid h
  rw [hnn] at H
  have HN := Lib.hid hnn
  have HS := Lib.hid hs
  have HBB := Lib.hid hbb
  have HA1 := Lib.hid hA
  have HA2 := Lib.hid hA2
  have HP2 := Lib.hid hp2
  have hni : (n : Int) ≤ 1000000 := by omega
  clear h hnn hs hbb hA hA2 hp2
  go_enter Try.func15, Try.ntmps15
  go_wp2
  have S0 := Lib.hid (OwnP.new0 w w.heap.size bb (Nat.le_refl _))
  go_loopw [7, 8] (fun s7 s8 wr => ∃ (k : Nat) (us : List Value), s8 = .int .i64 k ∧ k ≤ n ∧ OwnP wr w.heap.size bb us s7 (selF (ps.take k) f t) ∧ w.grownBy wr none) (fun _ s8 _ => n - (intOf s8).toNat)
  case atStart => exact ⟨0, [], rfl, Nat.zero_le _, S0.out, grown_alloc _ _ _⟩
  case round =>
    obtain ⟨k, us, rfl, hk, ho, hg⟩ := hrel
    obtain ⟨A1, c1, hv1, -, -, -⟩ := ho.shape
    subst hv1
    obtain ⟨on, hon⟩ : ∃ x, (selF (ps.take k) f t).length = x := ⟨_, rfl⟩
    have HON := Lib.hid (show (selF (ps.take k) f t).length ≤ 1000000 by
      unfold selF
      rw [List.length_map]
      exact Nat.le_trans (List.length_filter_le _ _) (by rw [List.length_take]; omega))
    rw [hon] at ho ⊢
    have HO := Lib.hid ho
    have GG := Lib.hid hg
    by_cases hkn : k < n
    · have hki : (k : Int) < (n : Int) := by omega
      have hkt : k < ps.length := by rw [HN.out]; exact hkn
      obtain ⟨gl, hgl⟩ := HA2.out (by omega)
      obtain rfl := HA1.out gl hgl
      obtain ⟨p, hp⟩ : ∃ p, p = ps[k] := ⟨_, rfl⟩
      have hp' : ps[k]? = some p := by rw [hp]; exact List.getElem?_eq_getElem hkt
      obtain ⟨y, hy⟩ : ∃ y, vs[k]? = some y := ⟨_, List.getElem?_eq_getElem (by have := H.out.len; omega)⟩
      have HW := H.out.none_ hg
      obtain ⟨e0, e1, e2, e3, e4⟩ := HW.cells_at hp' hy hgl
      have hd := HW.dat k p y hp' hy
      obtain ⟨cs, hcs, -, -⟩ := HW.blk hgl
      have HCS := Lib.hid hcs
      have HCT := Lib.hid (four_off hcs e0 e1 e2 e3)
      have HDD := Lib.hid hd
      have HT := Lib.hid (selF_take ps f t k hkt)
      rw [← hp] at HT
      have hpl := HP2.out p (by rw [hp]; exact List.getElem_mem hkt)
      obtain ⟨q, r⟩ := p
      clear hp hp' hy HW hgl hkt hd hcs e0 e1 e2 e3 ho hg hon
      simp only at e4 hpl
      have hq1 : ((f : Int) < (r : Int)) = (f < r) := by simp
      by_cases c1x : f < r
      · have i1 : (f : Int) < (r : Int) := by omega
        by_cases c2x : r ≤ t
        · have i2 : (r : Int) ≤ (t : Int) := by omega
          have HE := Lib.hid (show selF (ps.take (k + 1)) f t = selF (ps.take k) f t ++ [q] by rw [HT.out, if_pos ⟨c1x, c2x⟩])
          clear hq1 c1x c2x HT
          go_wp2_with (first
            | (refine wpList_loadC (off := k * 5) (p := [.int .i64 q.kind, .int .i64 q.verb, .int .i64 q.opt, y]) aggT4 rfl (.tmp 36) rfl HCS.out HCT.out.1 HCT.out.2 (by first | rfl | go_simp) ?_)
            | (at_builtin
               obtain ⟨wa, hwa⟩ : ∃ wa, wa = wr.alloc (.cells #[.int .i64 q.kind, .int .i64 q.verb, .int .i64 q.opt, y] 24) := ⟨_, rfl⟩
               have GA := Lib.hid (show wr.grownBy wa none by rw [hwa]; exact grown_alloc _ _ _)
               have NA := Lib.hid (show CB wa wr.heap.size 24 [.int .i64 q.kind, .int .i64 q.verb, .int .i64 q.opt, y] by rw [hwa]; exact CB.new _ _ _)
               rw [← hwa]
               clear hwa
               refine wpList_appP rfl (.tmp 32) (.tmp 38) rfl (t := q) (u := y) (ad := ⟨wr.heap.size, 0, none⟩) (c := 1) (HO.out.none_ GA.out) (OwnB.none_ HDD.out GA.out) (NA.out.at_ rfl) (NA.out.at_ rfl) (NA.out.at_ rfl) (NA.out.at_ rfl) (by first | rfl | go_simp) (by first | rfl | go_simp) (by have := HON.out; omega) (Nat.le_trans GG.out.size GA.out.size) ?_
               intro v2 w2 o2 g2 a2
               have O2 := Lib.hid o2
               have G2 := Lib.hid (grown_row (grown_trans' GG.out GA.out) g2 (fun z hz => (HO.out.lt z hz).1))
               clear o2 g2 a2))
          go_roundw
          case rel => exact ⟨k + 1, _, by go_num, by omega, by rw [HE.out]; exact O2.out, G2.out⟩
          case measure => simp [intOf]; omega
        · have i2 : ¬ (r : Int) ≤ (t : Int) := by omega
          have HE := Lib.hid (show selF (ps.take (k + 1)) f t = selF (ps.take k) f t by rw [HT.out, if_neg (fun e => c2x e.2)])
          clear hq1 c1x c2x HT
          go_wp2
          go_roundw
          case rel => exact ⟨k + 1, us, by go_num, by omega, by rw [HE.out]; exact HO.out, GG.out⟩
          case measure => simp [intOf]; omega
      · have i1 : ¬ (f : Int) < (r : Int) := by omega
        have HE := Lib.hid (show selF (ps.take (k + 1)) f t = selF (ps.take k) f t by rw [HT.out, if_neg (fun e => c1x e.1)])
        clear hq1 c1x HT
        go_wp2
        go_roundw
        case rel => exact ⟨k + 1, us, by go_num, by omega, by rw [HE.out]; exact HO.out, GG.out⟩
        case measure => simp [intOf]; omega
    · obtain rfl : k = n := by omega
      have hki : ¬ (k : Int) < (k : Int) := by omega
      have hlt : ps.take k = ps := List.take_of_length_le (by rw [HN.out]; exact Nat.le_refl _)
      rw [hlt] at HO HON
      clear ho hg hlt hon
      go_wp2_with (go_at_call 16
                   refine (put_any HO.out (Nat.le_trans HBB.out GG.out.size) HON.out HS.out).mono ?_
                   rintro e w7 ⟨v7, us7, rfl, o7, g7⟩
                   have O7 := Lib.hid o7
                   have G7 := Lib.hid g7
                   clear o7 g7)
      go_ret
      exact ⟨_, us7, rfl, OwnP.base_ O7.out GG.out.size (Nat.le_refl _), grown_trans' GG.out G7.out⟩
end Go.Proofs.Ytcfhpoigfkljpaa
