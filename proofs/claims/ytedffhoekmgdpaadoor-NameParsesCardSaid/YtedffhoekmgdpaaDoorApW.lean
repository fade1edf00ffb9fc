/- The walk of NameApart. -/
import Derived.Test.YtedffhoekmgdpaaDoorSp
namespace Go.Proofs.YtedffhoekmgdpaaDoor
open Go.RowKit

theorem agg1S : (Tryd.prog.info? 9).map (·.size) = some 1 := by kernel_rfl
theorem size_list (s : ByteArray) : s.size = s.data.toList.length := rfl
/-- What Parse has answered of a right text, taken apart. -/
theorem Parsed.yes {w w' : World} {l : List UInt8} {e : Ending} (h : Parsed w l e w') (hp : parses l = true) : ∃ (g n : Nat) (ls : List ByteArray) (r : ByteArray), e = .returned (.tuple #[.agg #[.slice (some ⟨g, 0, none⟩) n n, .string r], .int .i64 0]) ∧ ls.length = n ∧ n ≤ 3 ∧ dl ls = partsOf l ∧ r.data.toList = realmOf l ∧ w'.heap[g]? = some (.cells (ls.map Value.string).toArray 9 (0, 0)) ∧ w.heap.size ≤ g ∧ Below w.heap.size w w' := by
  rw [Parsed, if_pos hp] at h
  exact h
theorem Parsed.no {w w' : World} {l : List UInt8} {e : Ending} (h : Parsed w l e w') (hp : parses l = false) : e = .returned (.tuple #[.agg #[.slice none 0 0, .string ⟨#[]⟩], .int .i64 30]) ∧ Below w.heap.size w w' := by
  rw [Parsed, if_neg (by rw [hp]; simp)] at h
  exact h
theorem RS.of_heap {w : World} {g : Nat} {ls : List ByteArray} {t : TypeId} {n : Nat} (h : w.heap[g]? = some (.cells (ls.map Value.string).toArray t (0, 0))) (hn : ls.length = n) (hm : n ≤ 1000000) : RS w w.heap.size (some ⟨g, 0, none⟩) ls n := by
  subst hn
  refine ⟨Nat.le_refl _, by unfold maxLen; omega, .inr ⟨_, rfl, fun k s hs => ⟨(Array.getElem?_eq_some_iff.1 h).1, ?_⟩⟩⟩
  rw [Addr.add_lit, cell_of_row w g (0 + k) _ t (0, 0) h]
  simp [hs]
/-- Parts that are read are small. -/
theorem small_parts {l : List UInt8} {ls : List ByteArray} {r : ByteArray} (hp : parses l = true) (hd : dl ls = partsOf l) (hr : r.data.toList = realmOf l) : (∀ s ∈ ls, s.size ≤ 1000000) ∧ r.size ≤ 1000000 ∧ nameOk (dl ls) r.data.toList = true ∧ textOf (dl ls) r.data.toList = l := by
  have h := nameOk_iff.1 (show nameOk (partsOf l) (realmOf l) = true from hp)
  refine ⟨fun s hs => ?_, ?_, by rw [hd, hr]; exact hp, by rw [hd, hr]; exact text_parse hp⟩
  · have := (partOk_len (h.2.1 s.data.toList (by rw [← hd]; exact List.mem_map.2 ⟨s, hs, rfl⟩))).2
    rw [size_list]; omega
  · have := (partOk_len h.2.2).2
    rw [size_list, hr]; omega

set_option maxHeartbeats 800000 in
theorem walk_NameApart (w : World) (hM : ML w) (s : ByteArray) (_ : s.size ≤ maxLen) : Calls Tryd.prog 6 #[.string s] w fun e w' => e = .returned (.bool true) ∧ Below w.heap.size w w' := by
  have HM := Lib.hid hM
  obtain ⟨l, hl⟩ : ∃ l, s.data.toList = l := ⟨_, rfl⟩
  have hsz : s.size = l.length := by rw [← hl]; rfl
  have HL := Lib.hid hl
  by_cases hlong : 1000 < s.size
  · have hli : (1000 : Int) < (s.size : Int) := by omega
    clear hM hl hsz
    go_enter Tryd.func6, Tryd.ntmps6
    go_wp2_with (go_at_call 8; refine (speaks_any _ HM.out).mono ?_; rintro e w1 ⟨rfl, hb1⟩)
    go_ret
    exact ⟨rfl, hb1⟩
  have hli : ¬ (1000 : Int) < (s.size : Int) := by omega
  have HS := Lib.hid (show l.length ≤ 1000000 by omega)
  cases hp : parses l with
  | false =>
    have HP := Lib.hid hp
    have te : (ByteArray.mk #[]).toList = [] := by rw [ByteArray.toList_eq]
    clear hM hl hsz hp
    go_enter Tryd.func6, Tryd.ntmps6
    go_wp2_with (first
      | (go_at_call 8; refine (speaks_any _ HM.out).mono ?_; rintro e w0 ⟨rfl, hb0⟩; have HB0 := Lib.hid hb0; clear hb0)
      | (go_at_call 13; have hx := HB2; clear hx; refine (parse_any s l HL.out _ (HM.out.below HB2.out) HS.out).mono ?_; intro e w3 hq; obtain ⟨rfl, hb3⟩ := hq.no HP.out; have c1 := (hb3.cell (show (⟨w1.heap.size, 0, none⟩ : Addr).block < (w1.alloc (.cells #[.slice none 0 0, .string ⟨#[]⟩] 24)).heap.size by rw [World.size_alloc]; exact Nat.lt_succ_self _)).trans (cell_heap (heap_alloc_new w1 _) 0); have c2 := (hb3.cell (show (⟨w1.heap.size, 1, none⟩ : Addr).block < (w1.alloc (.cells #[.slice none 0 0, .string ⟨#[]⟩] 24)).heap.size by rw [World.size_alloc]; exact Nat.lt_succ_self _)).trans (cell_heap (heap_alloc_new w1 _) 1); have HB3 := Lib.hid (HB2.out.trans (hb3.mono HB2.out.size)); simp at c1 c2; have d1 := fun o => cell_alloc c1 o; have d2 := fun o => cell_alloc c2 o; clear hb3 hq c1 c2)
      | (go_at_call 13; refine (parse_any s l HL.out _ (HM.out.below HB0.out) HS.out).mono ?_; intro e w1 hq; obtain ⟨rfl, hb1⟩ := hq.no HP.out; have HB2 := Lib.hid (show Below w.heap.size w (w1.alloc (.cells #[.slice none 0 0, .string ⟨#[]⟩] 24)) from (HB0.out.trans (hb1.mono HB0.out.size)).alloc (Nat.le_trans HB0.out.size hb1.size) _); clear hb1 hq))
    go_ret
    exact ⟨rfl, HB3.out.alloc HB3.out.size _⟩
  | true =>
    have HP := Lib.hid hp
    have HSI := Lib.hid (show s = ⟨l.toArray⟩ from bytes_eq hl)
    clear hM hl hsz hp
    go_enter Tryd.func6, Tryd.ntmps6
    go_wp2_with (first
      | (go_at_call 8; refine (speaks_any _ HM.out).mono ?_; rintro e w0 ⟨rfl, hb0⟩; have HB0 := Lib.hid hb0; clear hb0)
      | (go_at_call 13; have hx := HB2; clear hx; refine (parse_any s l HL.out _ (HM.out.below HB2.out) HS.out).mono ?_; intro e w3 hq; obtain ⟨g2, n2, ls2, r2, rfl, hn2, hn23, hd2, hr2, hg2, hge2, hb3⟩ := hq.yes HP.out; obtain rfl : ls2 = ls := dl_inj (hd2.trans HD.out.symm); obtain rfl : n = n2 := HN.out.symm.trans hn2; obtain rfl : r2 = r := ba_inj (hr2.trans HR.out.symm); have HG2 := Lib.hid hg2; have HGE2 := Lib.hid hge2; have HB3 := Lib.hid (HB2.out.trans (hb3.mono HB2.out.size)); have HG3 := Lib.hid ((hb3.block g (by rw [World.size_alloc]; have := (Array.getElem?_eq_some_iff.1 HG.out).1; omega)).trans ((Below.heap_alloc w1 _ _ (Array.getElem?_eq_some_iff.1 HG.out).1).trans HG.out)); have HT3 := Lib.hid ((CB.new w1 24 [.slice (some ⟨g, 0, none⟩) n n, .string r2]).below hb3 (by rw [World.size_alloc]; exact Nat.lt_succ_self _)); have HLT3 := Lib.hid hb3.size; have d1 := fun o => cell_alloc (HT3.out.at_ (i := 0) (v := .slice (some ⟨g, 0, none⟩) n n) rfl) o; clear hb3 hq hd2 hr2 hg2 hge2 hn2 hn23)
      | (go_at_call 13; refine (parse_any s l HL.out _ (HM.out.below HB0.out) HS.out).mono ?_; intro e w1 hq; obtain ⟨g, n, ls, r, rfl, hn, hn3, hd, hr, hg, hge, hb1⟩ := hq.yes HP.out; have HN := Lib.hid hn; have HN3 := Lib.hid hn3; have HD := Lib.hid hd; have HR := Lib.hid hr; have HG := Lib.hid hg; have HB2 := Lib.hid (show Below w.heap.size w (w1.alloc (.cells #[.slice (some ⟨g, 0, none⟩) n n, .string r] 24)) from (HB0.out.trans (hb1.mono HB0.out.size)).alloc (Nat.le_trans HB0.out.size hb1.size) _); have HGE := Lib.hid (Nat.le_trans HB0.out.size hge); clear hb1 hq hn hd hr hg hge hn3))
    have HWB := Lib.hid (show Below w.heap.size w (w3.alloc (.cells #[.slice (some ⟨g2, 0, none⟩) n n, .string r2] 24)) from HB3.out.alloc HB3.out.size _)
    have HC1 := Lib.hid (show CB (w3.alloc (.cells #[.slice (some ⟨g2, 0, none⟩) n n, .string r2] 24)) g 9 (ls2.map Value.string) from (Below.heap_alloc w3 _ _ (Array.getElem?_eq_some_iff.1 HG3.out).1).trans HG3.out)
    have HC2 := Lib.hid (show CB (w3.alloc (.cells #[.slice (some ⟨g2, 0, none⟩) n n, .string r2] 24)) g2 9 (ls2.map Value.string) from (Below.heap_alloc w3 _ _ (Array.getElem?_eq_some_iff.1 HG2.out).1).trans HG2.out)
    have HC3 := Lib.hid (HT3.out.alloc (.cells #[.slice (some ⟨g2, 0, none⟩) n n, .string r2] 24))
    have HC5 := Lib.hid (CB.new w3 24 [.slice (some ⟨g2, 0, none⟩) n n, .string r2])
    have HNE2 := Lib.hid (show g2 ≠ g by have h1 := (Array.getElem?_eq_some_iff.1 HG.out).1; have h2 := HGE2.out; rw [World.size_alloc] at h2; omega)
    have HNE3 := Lib.hid (show w1.heap.size ≠ g by have h1 := (Array.getElem?_eq_some_iff.1 HG.out).1; omega)
    have HNE5 := Lib.hid (show w3.heap.size ≠ g by have h1 := (Array.getElem?_eq_some_iff.1 HG3.out).1; omega)
    have HQ := Lib.hid (show ∀ o, (w3.alloc o).heap.size = w3.heap.size + 1 from fun o => World.size_alloc w3 o)
    generalize hwb : w3.alloc (.cells #[.slice (some ⟨g2, 0, none⟩) n n, .string r2] 24) = wb at *
    clear d1 hwb
    go_loopw [39] (fun i wr => ∃ (k : Nat) (cs : List Value), i = .int .i64 k ∧ k ≤ n ∧ CB wr g 9 cs ∧ cs.length = n ∧ wb.grownBy wr (some g)) (fun i _ => n - (intOf i).toNat)
    case atStart => exact ⟨0, _, rfl, by omega, HC1.out, by rw [List.length_map]; exact HN.out, World.grownBy.refl _ _⟩
    case round =>
      obtain ⟨k, cs, rfl, hk, hc, hcl, hg⟩ := hrel
      have HR1 := Lib.hid hc
      have HR3 := Lib.hid (HC3.out.grown hg HNE3.out)
      have HCL := Lib.hid hcl
      have HGG := Lib.hid hg
      by_cases hlt : k < n
      · have hki : (k : Int) < (n : Int) := by omega
        have hn3 := HN3.out
        have d1 := HR3.out.at_ (i := 0) (v := .slice (some ⟨g, 0, none⟩) n n) rfl
        clear hc hcl hg
        go_wp2_with (refine wpList_storeC (off := k) (p := [.string ⟨#[63]⟩]) agg1S rfl (.tmp 45) (.const (.string ⟨#[63]⟩)) rfl (.string ⟨#[63]⟩) rfl (fun u hu => by rw [List.mem_singleton.1 hu]; rfl) HR1.out rfl (by rw [HCL.out]; omega) (by first | rfl | go_simp) rfl ?_; intro w8 h8 g8; have H8 := Lib.hid h8; have G8 := Lib.hid (grown_trans' HGG.out g8); clear h8 g8)
        go_roundw
        case rel => exact ⟨k + 1, _, by go_num, by omega, H8.out, by rw [over_length _ _ _ (by rw [HCL.out]; simp; omega)]; exact HCL.out, G8.out⟩
        case measure => simp [intOf]; omega
      · have hki : ¬ (k : Int) < (n : Int) := by omega
        have HR5 := Lib.hid (HC5.out.grown hg HNE5.out)
        have HR2 := Lib.hid (HC2.out.grown hg HNE2.out)
        obtain ⟨hs1, hs2, hs3, hs4⟩ := small_parts HP.out HD.out HR.out
        have HS1 := Lib.hid hs1
        have HS2 := Lib.hid hs2
        have HS3 := Lib.hid hs3
        have HS4 := Lib.hid hs4
        have tl : ∀ b : ByteArray, (b.toList == b.toList) = true := fun b => by rw [beq_self_eq_true]
        clear hc hcl hg hs1 hs2 hs3 hs4
        go_wp2_with (first
          | refine wpList_loadC (off := 0) (p := [.slice (some ⟨g2, 0, none⟩) n n, .string r2]) aggN rfl (.tmp 5) rfl HR5.out rfl (Nat.le_refl _) rfl ?_
          | (go_at_call 10; refine (text_any (some ⟨g2, 0, none⟩) ls2 n r2 _ (RS.of_heap HR2.out HN.out (by have := HN3.out; omega)) HS1.out HS2.out n HN.out (by have := HN3.out; omega)).mono ?_; rintro e w9 ⟨rfl, hb9⟩; rw [if_pos HS3.out, HS4.out, ← HSI.out]; have HB9 := Lib.hid (HWB.out.trans ((below_of_grown HGG.out HGE.out HWB.out.size).trans (hb9.mono (Nat.le_trans HWB.out.size HGG.out.size)))); clear hb9))
        go_ret
        exact ⟨rfl, HB9.out⟩
end Go.Proofs.YtedffhoekmgdpaaDoor
