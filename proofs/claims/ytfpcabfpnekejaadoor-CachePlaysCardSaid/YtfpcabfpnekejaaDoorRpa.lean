/- The walk of the document's Parse. -/
import Derived.Test.YtfpcabfpnekejaaDoorBrN
namespace Go.Proofs.YtfpcabfpnekejaaDoor
open Go.RowKit

/-- What the document's Parse answers. -/
def RefParsed (w : World) (l : List UInt8) (e : Ending) (w' : World) : Prop :=
  if parses l = true then ∃ (A : Option Addr) (n c : Nat) (ls : List ByteArray) (r : ByteArray), e = .returned (.tuple #[.agg #[.slice A n c, .string r], .bool true]) ∧ ls.length = n ∧ n ≤ 3 ∧ dl ls = partsOf l ∧ r.data.toList = realmOf l ∧ NS w' w'.heap.size A ls c ∧ Below w.heap.size w w'
  else e = .returned (.tuple #[.agg #[.slice none 0 0, .string ⟨#[]⟩], .bool false]) ∧ Below w.heap.size w w'

set_option maxRecDepth 10000 in
set_option maxHeartbeats 1000000 in
theorem refParse_any (s : ByteArray) (l : List UInt8) (hl : s.data.toList = l) (w : World) (hs : l.length ≤ 10000) :
    Calls Tryd.prog 29 #[.string s] w fun e w' => RefParsed w l e w' := by
  have hsz : s.size = l.length := by rw [← hl]; rfl
  have hget : ∀ k (h : k < l.length), s[k]'(by omega) = l[k] := fun k h => by subst hl; simp [ByteArray.getElem_eq_getElem_data]
  have HR0 := Lib.hid (CB.new w 66 zeroN)
  have HB0 := Lib.hid ((Below.refl w.heap.size w).alloc (Nat.le_refl _) (.cells zeroN.toArray 66))
  have HL := Lib.hid hl
  rcases index_one 64 l with ⟨_, hno⟩ | ⟨a, b, hab, hna, _⟩
  · have hp : parses l = false := by
      cases h : parses l with
      | false => rfl
      | true =>
        have := (partOk_len (nameOk_iff.1 h).2.2).1
        rw [realmOf, cut1_none 64 l hno] at this
        simp at this
    have HP := Lib.hid hp
    have HNO := Lib.hid (show ∀ k (h : k < l.length), ((l[k].toNat : Int) == 64) = false from fun k h => by
      rw [beq_eq_false_iff_ne]
      intro e
      exact hno (by rw [show (64 : UInt8) = l[k] from UInt8.toNat_inj.1 (by show 64 = l[k].toNat; omega)]; exact List.getElem_mem h))
    have HG := Lib.hid hget
    clear hl hp hno hget
    go_enter Tryd.func29, Tryd.ntmps29
    go_wp2_with (refine wpList_allocC zeroN_run rfl rfl ?_)
    go_loop [5, 4] (fun i x => ∃ k : Nat, i = .int .i64 k ∧ k ≤ l.length ∧ x = .int .i64 (-1)) (fun i _ => l.length - (intOf i).toNat)
    case atStart => exact ⟨0, rfl, by omega, rfl⟩
    case round =>
      obtain ⟨k, rfl, hk, rfl⟩ := hrel
      by_cases hlt : k < l.length
      · have hki : (k : Int) < (s.size : Int) := by omega
        have hg := HG.out k hlt
        have hne := HNO.out k hlt
        generalize l[k] = c at hg hne
        go_wp2
        go_round
        case rel => exact ⟨k + 1, by go_num, by omega, rfl⟩
        case measure => simp [intOf]; omega
      · have hki : ¬ (k : Int) < (s.size : Int) := by omega
        go_wp2_with (refine wpList_storeC (off := 0) (p := zeroN) aggN.hi rfl (.tmp 2) (.tmp 26) rfl (.agg zeroN.toArray) rfl (nm_one _ _ _ _) HR0.out rfl (Nat.le_refl _) (by first | rfl | go_simp) rfl ?_; intro w8 h8 g8; rw [show over zeroN 0 zeroN = zeroN from rfl] at h8)
        refine bodyPost_ret (results_C2 rfl _ aggN h8 rfl rfl rfl) rfl ?_
        rw [RefParsed, if_neg (by rw [HP.out]; simp)]
        exact ⟨rfl, below_of_none (none_new (grown_alloc w _ none) g8 (Nat.le_refl _))⟩
  · have HG := Lib.hid hget
    have HAB := Lib.hid hab
    have hlen : l.length = a.length + 1 + b.length := by rw [hab]; simp; omega
    have HLT := Lib.hid (show ∀ k (h : k < a.length), ((l[k]'(by omega)).toNat : Int) ≠ 64 from fun k h e => by
      have h1 : l[k]'(by omega) = a[k] := by subst hab; rw [List.getElem_append_left h]
      rw [h1] at e
      exact hna (by rw [show (64 : UInt8) = a[k] from UInt8.toNat_inj.1 (by show 64 = a[k].toNat; omega)]; exact List.getElem_mem h))
    have HAT := Lib.hid (show l[a.length]'(by omega) = 64 by subst hab; simp)
    have HNA := Lib.hid hna
    clear hl hab hna hget
    go_enter Tryd.func29, Tryd.ntmps29
    go_wp2_with (refine wpList_allocC zeroN_run rfl rfl ?_)
    go_loop [5, 4] (fun i x => ∃ k : Nat, i = .int .i64 k ∧ k ≤ l.length ∧ ((k ≤ a.length ∧ x = .int .i64 (-1)) ∨ (a.length < k ∧ x = .int .i64 (a.length : Nat)))) (fun i _ => l.length - (intOf i).toNat)
    case atStart => exact ⟨0, rfl, by omega, .inl ⟨by omega, rfl⟩⟩
    case round =>
      obtain ⟨k, rfl, hk, hx⟩ := hrel
      by_cases hlt : k < l.length
      · have hki : (k : Int) < (s.size : Int) := by omega
        have hg := HG.out k hlt
        rcases hx with ⟨hka, rfl⟩ | ⟨hka, rfl⟩
        · by_cases hlt2 : k < a.length
          · have hne : ((l[k].toNat : Int) == 64) = false := by rw [beq_eq_false_iff_ne]; exact HLT.out k hlt2
            generalize l[k] = c at hg hne
            go_wp2
            go_round
            case rel => exact ⟨k + 1, by go_num, by omega, .inl ⟨by omega, rfl⟩⟩
            case measure => simp [intOf]; omega
          · obtain rfl : k = a.length := by omega
            have he : l[a.length] = 64 := HAT.out
            rw [he] at hg
            go_wp2
            go_round
            case rel => exact ⟨a.length + 1, by go_num, by omega, .inr ⟨by omega, rfl⟩⟩
            case measure => simp [intOf]; omega
        · generalize l[k] = c at hg
          have hge : ¬ ((a.length : Nat) : Int) < 0 := by omega
          by_cases hc : ((c.toNat : Int) == 64) = true
          · go_wp2
            go_round
            case rel => exact ⟨k + 1, by go_num, by omega, .inr ⟨by omega, rfl⟩⟩
            case measure => simp [intOf]; omega
          · have hc' : ((c.toNat : Int) == 64) = false := by simpa using hc
            go_wp2
            go_round
            case rel => exact ⟨k + 1, by go_num, by omega, .inr ⟨by omega, rfl⟩⟩
            case measure => simp [intOf]; omega
      · have hki : ¬ (k : Int) < (s.size : Int) := by omega
        obtain rfl : k = l.length := by omega
        rcases hx with ⟨hka, rfl⟩ | ⟨hka, rfl⟩
        · omega
        · have hge : ¬ ((a.length : Nat) : Int) < 0 := by omega
          go_wp2_with fail -- x
          obtain ⟨r, hr⟩ : ∃ r, r = s.extract (a.length + 1) (a.length + 1 + b.length) := ⟨_, rfl⟩
          rw [← hr]
          have HRR := Lib.hid (show r.data.toList = b by
            rw [hr, ext_data s l HL.out, HAB.out, List.take_of_length_le (by simp; omega), show a ++ 64 :: b = (a ++ [64]) ++ b by simp]
            exact List.drop_left' (by simp))
          clear hr
          have HR1 := Lib.hid (show CB ((w.alloc (.cells zeroN.toArray 66)).alloc (.cells #[.slice none 0 0, .string r] 66)) w.heap.size 66 zeroN from HR0.out.alloc _)
          have hc6 : CB ((w.alloc (.cells zeroN.toArray 66)).alloc (.cells #[.slice none 0 0, .string r] 66)) (w.heap.size + 1) 66 [.slice none 0 0, .string r] := by
            have h := CB.new (w.alloc (.cells zeroN.toArray 66)) 66 [.slice none 0 0, .string r]
            rw [World.size_alloc] at h
            exact h
          have HC6 := Lib.hid hc6
          clear hc6
          go_loopw [8, 7] (fun i f wr => ∃ (k fr : Nat) (v : Value) (done : List ByteArray), i = .int .i64 k ∧ f = .int .i64 fr ∧ k ≤ a.length + 1 ∧ fr ≤ k ∧ CB wr (w.heap.size + 1) 66 [v, .string r] ∧ OwnS wr (w.heap.size + 1) 9 v done ∧ (∀ x, v.ownBlock = some x → x ≠ w.heap.size + 1) ∧ done.length ≤ k ∧ w.grownBy wr none ∧ CB wr w.heap.size 66 zeroN ∧ ((k ≤ a.length ∧ pieces1 47 a = dl done ++ pieces1 47 (a.drop fr) ∧ (47 : UInt8) ∉ (a.drop fr).take (k - fr)) ∨ (k = a.length + 1 ∧ dl done = pieces1 47 a))) (fun i _ _ => a.length + 1 - (intOf i).toNat)
          case atStart => exact ⟨0, 0, .slice none 0 0, [], rfl, rfl, by omega, by omega, HC6.out, OwnS.nil_ _ _ _, fun x hx => by simp [Value.ownBlock] at hx, by simp, grown_trans' (grown_alloc _ _ none) (grown_alloc _ _ none), HR1.out, .inl ⟨by omega, by simp [dl], by simp⟩⟩
          case round =>
            obtain ⟨k, fr, v, done, rfl, rfl, hk1, hfr, hc, ho, hne, hdk, hg, hr0, hst⟩ := hrel
            have HNE := Lib.hid hne
            have HDK := Lib.hid hdk
            by_cases hle : k ≤ a.length
            · have hki : (k : Int) ≤ (a.length : Int) := by omega
              obtain ⟨hp1, hp2⟩ : pieces1 47 a = dl done ++ pieces1 47 (a.drop fr) ∧ (47 : UInt8) ∉ (a.drop fr).take (k - fr) := by
                rcases hst with h | h
                · exact h.2
                · omega
              have hkl : k < l.length := by omega
              have hg2 := HG.out k hkl
              have HDL := Lib.hid (show done.length ≤ 1000000 by omega)
              obtain ⟨sub, hsub⟩ : ∃ x, x = s.extract fr k := ⟨_, rfl⟩
              have hsd : sub.data.toList = (a.take k).drop fr := by rw [hsub, ext_data s l HL.out, HAB.out, List.take_append_of_le_length hle]
              have HSUB := Lib.hid hsub
              have hks : k ≤ s.size := by omega
              have hsl : ∀ wx, (Instr.sliceAt 9 (.string s) (some (.int .i64 fr)) (some (.int .i64 k)) none).run Tryd.prog wx = .ok (.string sub) wx := fun wx => by
                have h := run_slice_string (P := Tryd.prog) wx 9 s .i64 .i64 fr k Tryd.underlying9 (by omega) (by omega) (by omega)
                rw [run_sliceAt_string (P := Tryd.prog) wx 9 _ _ _ _ Tryd.underlying9, h, hsub]
                simp
              by_cases hlast : k = a.length
              · have HNX := Lib.hid (show dl (done ++ [sub]) = pieces1 47 a by
                  subst hlast
                  rw [parts_last hfr hp1 hp2, ← hsd]
                  simp [dl])
                have hx : l[k] = 64 := by
                  have h := HAT.out
                  subst hlast
                  exact h
                rw [hx] at hg2
                subst hlast
                clear hst hp1 hp2 hx hsd hne hdk hsub
                have d1 := hc.at_ (i := 0) (v := v) rfl
                go_wp2_with fail
                have HCd := Lib.hid hc.drew
                have HOd := Lib.hid (show OwnS wr.drew (w.heap.size + 1) 9 v done from ho)
                have HRd := Lib.hid hr0.drew
                have HGd := Lib.hid (grown_drew hg)
                have dd : wr.drew.cell? ⟨w.heap.size + 1, 0, none⟩ = some v := d1
                clear hc ho hg hr0 d1
                refine heldb_begin (w.heap.size + 1) (by kernel_rfl) (fun hS0 => ?_)
                generalize wr.drew = wd at *
                refine heldb_take (i := 0) (d := some 46) (v := ?vql14x1) (by assumption) rfl rfl (by kernel_rfl) (fun _ _ _ h => h) ?yql14x1 ?_; case yql14x1 => (refine Or.inl ⟨rfl, fun wx hS => ?_⟩; go_simp; try with_reducible rfl)
                try simp only [Act.put, List.setIfInBounds_toArray, List.set_cons_zero, List.set_cons_succ]
                refine heldb_take (i := 2) (d := some 48) (v := ?vql14x2) (by assumption) rfl rfl (by kernel_rfl) (fun _ _ _ h => h) ?yql14x2 ?_; case yql14x2 => (refine Or.inl ⟨rfl, fun wx hS => ?_⟩; go_simp; try with_reducible rfl)
                try simp only [Act.put, List.setIfInBounds_toArray, List.set_cons_zero, List.set_cons_succ]
                refine heldb_take (i := 3) (d := some 49) (v := ?vql14x3) (by assumption) rfl rfl (by kernel_rfl) (fun _ _ _ h => h) ?yql14x3 ?_; case yql14x3 => (refine Or.inl ⟨rfl, fun wx hS => ?_⟩; go_simp; try with_reducible rfl)
                try simp only [Act.put, List.setIfInBounds_toArray, List.set_cons_zero, List.set_cons_succ]
                refine heldb_take (i := 4) (d := some 50) (v := ?vql14x4) (by assumption) rfl rfl (by kernel_rfl) (fun _ _ _ h => h) ?yql14x4 ?_; case yql14x4 => (refine Or.inl ⟨rfl, fun wx hS => ?_⟩; go_simp; try with_reducible rfl)
                try simp only [Act.put, List.setIfInBounds_toArray, List.set_cons_zero, List.set_cons_succ]
                refine heldb_take (i := 5) (d := some 51) (v := _) (by assumption) rfl rfl (by kernel_rfl) (fun _ _ _ h => h) (yields_sliceS (.tmp 48) (.tmp 49) (.tmp 50) rfl rfl rfl rfl rfl hsl) ?_
                try simp only [Act.put, List.setIfInBounds_toArray, List.set_cons_zero, List.set_cons_succ]
                refine heldb_two (i := 1) (j := 6) (by kernel_rfl) rfl rfl rfl rfl (fun K hK => ?_) (fun K hK => ?_)
                · go_simp
                  refine hK.out _ _ hS0 (fun hSl14x6 => ?_)
                  clear hK K
                  try simp only [Act.put, List.setIfInBounds_toArray, List.set_cons_zero, List.set_cons_succ]
                  refine heldb_one (i := 6) rfl (by kernel_rfl) rfl (fun K hK => ?_)
                  refine wp_litS (d := some 52) (e := 9) sub rfl (by go_simp) ?_
                  intro gl14x8 wl14x7 hgl14x9 hcl14x10 grl14x11
                  have Cl14x13 := Lib.hid (HCd.out.kept grl14x11)
                  have Ol14x14 := Lib.hid (HOd.out.kept_ grl14x11)
                  have Rl14x15 := Lib.hid (HRd.out.kept grl14x11)
                  have Gl14x16 := Lib.hid (grown_trans' HGd.out grl14x11)
                  have cl14x17 := Cl14x13.out.at_ (i := 0) (v := v) rfl
                  refine hK.out _ _ (hSl14x6.trans (below_row grl14x11 (by have := HRd.out.lt; omega) (fun x hx => by cases hx))) (fun hSl14x12 => ?_)
                  clear hK K hgl14x9
                  try simp only [Act.put, List.setIfInBounds_toArray, List.set_cons_zero, List.set_cons_succ]
                  refine heldb_one (i := 7) rfl (by kernel_rfl) rfl (fun K hK => ?_)
                  refine wp_appS (d := some 53) strT rfl (.tmp 47) (.tmp 52) rfl Ol14x14.out hcl14x10 rfl rfl HDL.out (by have := Rl14x15.out.lt; omega) ?_
                  intro vl14x18 wl14x19 ol14x20 gl14x21 hatl14x22
                  have Cl14x24 := Lib.hid (Cl14x13.out.row_ gl14x21 HNE.out)
                  have Rl14x26 := Lib.hid (Rl14x15.out.row_ gl14x21 (fun x hx => by have := (Ol14x14.out.shape_lt x hx).1; omega))
                  have Gl14x27 := Lib.hid (grownR Gl14x16.out gl14x21 (fun x hx => by have := (Ol14x14.out.shape_lt x hx).1; omega))
                  have Nl14x28 := Lib.hid (show ∀ x, vl14x18.ownBlock = some x → x ≠ w.heap.size + 1 from fun x hx => by
                    rcases hatl14x22 with h | h
                    · exact HNE.out x (h ▸ hx)
                    · rw [h] at hx; injection hx with hx; have := Cl14x13.out.lt; omega)
                  obtain ⟨A2, c2, Vl14x29, -, -⟩ := ol14x20.shape
                  have Ol14x25 := Lib.hid ol14x20
                  have Vl14x29h := Lib.hid Vl14x29
                  refine hK.out _ _ (hSl14x12.trans (below_row gl14x21 (by have := Rl14x15.out.lt; omega) (fun x hx => (Ol14x14.out.shape_lt x hx).1))) (fun hSl14x23 => ?_)
                  clear hK K ol14x20 gl14x21 hatl14x22 Vl14x29
                  try simp only [Act.put, List.setIfInBounds_toArray, List.set_cons_zero, List.set_cons_succ]
                  refine heldb_take (i := 8) (d := some 54) (v := ?vql14x30) (by assumption) rfl rfl (by kernel_rfl) (fun _ _ _ h => h) ?yql14x30 ?_; case yql14x30 => (refine Or.inl ⟨rfl, fun wx hS => ?_⟩; go_simp; try with_reducible rfl)
                  try simp only [Act.put, List.setIfInBounds_toArray, List.set_cons_zero, List.set_cons_succ]
                  refine heldb_one (i := 9) rfl (by kernel_rfl) rfl (fun K hK => ?_)
                  refine wp_storeC (d := none) (off := 0) (p := [vl14x18]) slSize rfl (.tmp 54) (.tmp 53) rfl vl14x18 (by rw [Vl14x29h.out]; rfl) (fun u hu => by rw [List.mem_singleton.1 hu, Vl14x29h.out]; rfl) Cl14x24.out rfl (by simp) rfl rfl ?_
                  intro wl14x31 cl14x32 gl14x33
                  have Cl14x35 := Lib.hid (show CB wl14x31 (w.heap.size + 1) 66 [vl14x18, .string r] from cl14x32)
                  have Ol14x36 := Lib.hid (Ol14x25.out.row gl14x33 Nl14x28.out)
                  have Rl14x37 := Lib.hid (Rl14x26.out.grown gl14x33 (by omega))
                  have Gl14x38 := Lib.hid (none_new Gl14x27.out gl14x33 (by omega))
                  refine hK.out _ _ (hSl14x23.trans (below_row gl14x33 (by have := Rl14x26.out.lt; omega) (fun x hx => by injection hx with hx; omega))) (fun hSl14x34 => ?_)
                  clear hK K cl14x32 gl14x33
                  refine held_end (by kernel_rfl) ?_ _
                  go_wp2
                  go_roundw
                  case rel => exact ⟨a.length + 1, a.length + 1, vl14x18, done ++ [sub], by go_num, by go_num, by omega, by omega, Cl14x35.out, Ol14x36.out, Nl14x28.out, by rw [List.length_append]; have := HDK.out; simp; omega, Gl14x38.out, Rl14x37.out, (.inr ⟨rfl, HNX.out⟩)⟩
                  case measure => first | (simp [intOf]; done) | (simp [intOf]; omega)
                · refine wp_litS (d := some 52) (e := 9) sub rfl (by go_simp) ?_
                  intro gl14x40 wl14x39 hgl14x41 hcl14x42 grl14x43
                  have Cl14x45 := Lib.hid (HCd.out.kept grl14x43)
                  have Ol14x46 := Lib.hid (HOd.out.kept_ grl14x43)
                  have Rl14x47 := Lib.hid (HRd.out.kept grl14x43)
                  have Gl14x48 := Lib.hid (grown_trans' HGd.out grl14x43)
                  have cl14x49 := Cl14x45.out.at_ (i := 0) (v := v) rfl
                  refine hK.out _ _ (hS0.trans (below_row grl14x43 (by have := HRd.out.lt; omega) (fun x hx => by cases hx))) (fun hSl14x44 => ?_)
                  clear hK K hgl14x41
                  try simp only [Act.put, List.setIfInBounds_toArray, List.set_cons_zero, List.set_cons_succ]
                  refine heldb_one (i := 1) rfl (by kernel_rfl) rfl (fun K hK => ?_)
                  go_simp
                  refine hK.out _ _ hSl14x44 (fun hSl14x50 => ?_)
                  clear hK K
                  try simp only [Act.put, List.setIfInBounds_toArray, List.set_cons_zero, List.set_cons_succ]
                  refine heldb_one (i := 7) rfl (by kernel_rfl) rfl (fun K hK => ?_)
                  refine wp_appS (d := some 53) strT rfl (.tmp 47) (.tmp 52) rfl Ol14x46.out hcl14x42 rfl rfl HDL.out (by have := Rl14x47.out.lt; omega) ?_
                  intro vl14x51 wl14x52 ol14x53 gl14x54 hatl14x55
                  have Cl14x57 := Lib.hid (Cl14x45.out.row_ gl14x54 HNE.out)
                  have Rl14x59 := Lib.hid (Rl14x47.out.row_ gl14x54 (fun x hx => by have := (Ol14x46.out.shape_lt x hx).1; omega))
                  have Gl14x60 := Lib.hid (grownR Gl14x48.out gl14x54 (fun x hx => by have := (Ol14x46.out.shape_lt x hx).1; omega))
                  have Nl14x61 := Lib.hid (show ∀ x, vl14x51.ownBlock = some x → x ≠ w.heap.size + 1 from fun x hx => by
                    rcases hatl14x55 with h | h
                    · exact HNE.out x (h ▸ hx)
                    · rw [h] at hx; injection hx with hx; have := Cl14x45.out.lt; omega)
                  obtain ⟨A2, c2, Vl14x62, -, -⟩ := ol14x53.shape
                  have Ol14x58 := Lib.hid ol14x53
                  have Vl14x62h := Lib.hid Vl14x62
                  refine hK.out _ _ (hSl14x50.trans (below_row gl14x54 (by have := Rl14x47.out.lt; omega) (fun x hx => (Ol14x46.out.shape_lt x hx).1))) (fun hSl14x56 => ?_)
                  clear hK K ol14x53 gl14x54 hatl14x55 Vl14x62
                  try simp only [Act.put, List.setIfInBounds_toArray, List.set_cons_zero, List.set_cons_succ]
                  refine heldb_take (i := 8) (d := some 54) (v := ?vql14x63) (by assumption) rfl rfl (by kernel_rfl) (fun _ _ _ h => h) ?yql14x63 ?_; case yql14x63 => (refine Or.inl ⟨rfl, fun wx hS => ?_⟩; go_simp; try with_reducible rfl)
                  try simp only [Act.put, List.setIfInBounds_toArray, List.set_cons_zero, List.set_cons_succ]
                  refine heldb_one (i := 9) rfl (by kernel_rfl) rfl (fun K hK => ?_)
                  refine wp_storeC (d := none) (off := 0) (p := [vl14x51]) slSize rfl (.tmp 54) (.tmp 53) rfl vl14x51 (by rw [Vl14x62h.out]; rfl) (fun u hu => by rw [List.mem_singleton.1 hu, Vl14x62h.out]; rfl) Cl14x57.out rfl (by simp) rfl rfl ?_
                  intro wl14x64 cl14x65 gl14x66
                  have Cl14x68 := Lib.hid (show CB wl14x64 (w.heap.size + 1) 66 [vl14x51, .string r] from cl14x65)
                  have Ol14x69 := Lib.hid (Ol14x58.out.row gl14x66 Nl14x61.out)
                  have Rl14x70 := Lib.hid (Rl14x59.out.grown gl14x66 (by omega))
                  have Gl14x71 := Lib.hid (none_new Gl14x60.out gl14x66 (by omega))
                  refine hK.out _ _ (hSl14x56.trans (below_row gl14x66 (by have := Rl14x59.out.lt; omega) (fun x hx => by injection hx with hx; omega))) (fun hSl14x67 => ?_)
                  clear hK K cl14x65 gl14x66
                  refine held_end (by kernel_rfl) ?_ _
                  go_wp2
                  go_roundw
                  case rel => exact ⟨a.length + 1, a.length + 1, vl14x51, done ++ [sub], by go_num, by go_num, by omega, by omega, Cl14x68.out, Ol14x69.out, Nl14x61.out, by rw [List.length_append]; have := HDK.out; simp; omega, Gl14x71.out, Rl14x70.out, (.inr ⟨rfl, HNX.out⟩)⟩
                  case measure => first | (simp [intOf]; done) | (simp [intOf]; omega)
              · have hlt2 : k < a.length := by omega
                have hxa : l[k] = a[k] := by have h := HAB.out; subst h; rw [List.getElem_append_left hlt2]
                rw [hxa] at hg2
                by_cases hs47 : a[k] = 47
                · have HNX := Lib.hid (show ((k + 1 ≤ a.length ∧ pieces1 47 a = dl (done ++ [sub]) ++ pieces1 47 (a.drop (k + 1)) ∧ (47 : UInt8) ∉ (a.drop (k + 1)).take (k + 1 - (k + 1))) ∨ (k + 1 = a.length + 1 ∧ dl (done ++ [sub]) = pieces1 47 a)) from .inl ⟨by omega, by
                    rw [parts_step hfr hlt2 hp1 hp2 hs47, ← hsd]
                    simp [dl], by simp⟩)
                  rw [hs47] at hg2
                  clear hst hp1 hp2 hxa hsd hne hdk hs47 hsub
                  have d1 := hc.at_ (i := 0) (v := v) rfl
                  go_wp2_with fail
                  have HCd := Lib.hid hc.drew
                  have HOd := Lib.hid (show OwnS wr.drew (w.heap.size + 1) 9 v done from ho)
                  have HRd := Lib.hid hr0.drew
                  have HGd := Lib.hid (grown_drew hg)
                  have dd : wr.drew.cell? ⟨w.heap.size + 1, 0, none⟩ = some v := d1
                  clear hc ho hg hr0 d1
                  refine heldb_begin (w.heap.size + 1) (by kernel_rfl) (fun hS0 => ?_)
                  generalize wr.drew = wd at *
                  refine heldb_take (i := 0) (d := some 46) (v := ?vqm14x1) (by assumption) rfl rfl (by kernel_rfl) (fun _ _ _ h => h) ?yqm14x1 ?_; case yqm14x1 => (refine Or.inl ⟨rfl, fun wx hS => ?_⟩; go_simp; try with_reducible rfl)
                  try simp only [Act.put, List.setIfInBounds_toArray, List.set_cons_zero, List.set_cons_succ]
                  refine heldb_take (i := 2) (d := some 48) (v := ?vqm14x2) (by assumption) rfl rfl (by kernel_rfl) (fun _ _ _ h => h) ?yqm14x2 ?_; case yqm14x2 => (refine Or.inl ⟨rfl, fun wx hS => ?_⟩; go_simp; try with_reducible rfl)
                  try simp only [Act.put, List.setIfInBounds_toArray, List.set_cons_zero, List.set_cons_succ]
                  refine heldb_take (i := 3) (d := some 49) (v := ?vqm14x3) (by assumption) rfl rfl (by kernel_rfl) (fun _ _ _ h => h) ?yqm14x3 ?_; case yqm14x3 => (refine Or.inl ⟨rfl, fun wx hS => ?_⟩; go_simp; try with_reducible rfl)
                  try simp only [Act.put, List.setIfInBounds_toArray, List.set_cons_zero, List.set_cons_succ]
                  refine heldb_take (i := 4) (d := some 50) (v := ?vqm14x4) (by assumption) rfl rfl (by kernel_rfl) (fun _ _ _ h => h) ?yqm14x4 ?_; case yqm14x4 => (refine Or.inl ⟨rfl, fun wx hS => ?_⟩; go_simp; try with_reducible rfl)
                  try simp only [Act.put, List.setIfInBounds_toArray, List.set_cons_zero, List.set_cons_succ]
                  refine heldb_take (i := 5) (d := some 51) (v := _) (by assumption) rfl rfl (by kernel_rfl) (fun _ _ _ h => h) (yields_sliceS (.tmp 48) (.tmp 49) (.tmp 50) rfl rfl rfl rfl rfl hsl) ?_
                  try simp only [Act.put, List.setIfInBounds_toArray, List.set_cons_zero, List.set_cons_succ]
                  refine heldb_two (i := 1) (j := 6) (by kernel_rfl) rfl rfl rfl rfl (fun K hK => ?_) (fun K hK => ?_)
                  · go_simp
                    refine hK.out _ _ hS0 (fun hSm14x6 => ?_)
                    clear hK K
                    try simp only [Act.put, List.setIfInBounds_toArray, List.set_cons_zero, List.set_cons_succ]
                    refine heldb_one (i := 6) rfl (by kernel_rfl) rfl (fun K hK => ?_)
                    refine wp_litS (d := some 52) (e := 9) sub rfl (by go_simp) ?_
                    intro gm14x8 wm14x7 hgm14x9 hcm14x10 grm14x11
                    have Cm14x13 := Lib.hid (HCd.out.kept grm14x11)
                    have Om14x14 := Lib.hid (HOd.out.kept_ grm14x11)
                    have Rm14x15 := Lib.hid (HRd.out.kept grm14x11)
                    have Gm14x16 := Lib.hid (grown_trans' HGd.out grm14x11)
                    have cm14x17 := Cm14x13.out.at_ (i := 0) (v := v) rfl
                    refine hK.out _ _ (hSm14x6.trans (below_row grm14x11 (by have := HRd.out.lt; omega) (fun x hx => by cases hx))) (fun hSm14x12 => ?_)
                    clear hK K hgm14x9
                    try simp only [Act.put, List.setIfInBounds_toArray, List.set_cons_zero, List.set_cons_succ]
                    refine heldb_one (i := 7) rfl (by kernel_rfl) rfl (fun K hK => ?_)
                    refine wp_appS (d := some 53) strT rfl (.tmp 47) (.tmp 52) rfl Om14x14.out hcm14x10 rfl rfl HDL.out (by have := Rm14x15.out.lt; omega) ?_
                    intro vm14x18 wm14x19 om14x20 gm14x21 hatm14x22
                    have Cm14x24 := Lib.hid (Cm14x13.out.row_ gm14x21 HNE.out)
                    have Rm14x26 := Lib.hid (Rm14x15.out.row_ gm14x21 (fun x hx => by have := (Om14x14.out.shape_lt x hx).1; omega))
                    have Gm14x27 := Lib.hid (grownR Gm14x16.out gm14x21 (fun x hx => by have := (Om14x14.out.shape_lt x hx).1; omega))
                    have Nm14x28 := Lib.hid (show ∀ x, vm14x18.ownBlock = some x → x ≠ w.heap.size + 1 from fun x hx => by
                      rcases hatm14x22 with h | h
                      · exact HNE.out x (h ▸ hx)
                      · rw [h] at hx; injection hx with hx; have := Cm14x13.out.lt; omega)
                    obtain ⟨A2, c2, Vm14x29, -, -⟩ := om14x20.shape
                    have Om14x25 := Lib.hid om14x20
                    have Vm14x29h := Lib.hid Vm14x29
                    refine hK.out _ _ (hSm14x12.trans (below_row gm14x21 (by have := Rm14x15.out.lt; omega) (fun x hx => (Om14x14.out.shape_lt x hx).1))) (fun hSm14x23 => ?_)
                    clear hK K om14x20 gm14x21 hatm14x22 Vm14x29
                    try simp only [Act.put, List.setIfInBounds_toArray, List.set_cons_zero, List.set_cons_succ]
                    refine heldb_take (i := 8) (d := some 54) (v := ?vqm14x30) (by assumption) rfl rfl (by kernel_rfl) (fun _ _ _ h => h) ?yqm14x30 ?_; case yqm14x30 => (refine Or.inl ⟨rfl, fun wx hS => ?_⟩; go_simp; try with_reducible rfl)
                    try simp only [Act.put, List.setIfInBounds_toArray, List.set_cons_zero, List.set_cons_succ]
                    refine heldb_one (i := 9) rfl (by kernel_rfl) rfl (fun K hK => ?_)
                    refine wp_storeC (d := none) (off := 0) (p := [vm14x18]) slSize rfl (.tmp 54) (.tmp 53) rfl vm14x18 (by rw [Vm14x29h.out]; rfl) (fun u hu => by rw [List.mem_singleton.1 hu, Vm14x29h.out]; rfl) Cm14x24.out rfl (by simp) rfl rfl ?_
                    intro wm14x31 cm14x32 gm14x33
                    have Cm14x35 := Lib.hid (show CB wm14x31 (w.heap.size + 1) 66 [vm14x18, .string r] from cm14x32)
                    have Om14x36 := Lib.hid (Om14x25.out.row gm14x33 Nm14x28.out)
                    have Rm14x37 := Lib.hid (Rm14x26.out.grown gm14x33 (by omega))
                    have Gm14x38 := Lib.hid (none_new Gm14x27.out gm14x33 (by omega))
                    refine hK.out _ _ (hSm14x23.trans (below_row gm14x33 (by have := Rm14x26.out.lt; omega) (fun x hx => by injection hx with hx; omega))) (fun hSm14x34 => ?_)
                    clear hK K cm14x32 gm14x33
                    refine held_end (by kernel_rfl) ?_ _
                    go_wp2
                    go_roundw
                    case rel => exact ⟨k + 1, k + 1, vm14x18, done ++ [sub], by go_num, by go_num, by omega, by omega, Cm14x35.out, Om14x36.out, Nm14x28.out, by rw [List.length_append]; have := HDK.out; simp; omega, Gm14x38.out, Rm14x37.out, HNX.out⟩
                    case measure => first | (simp [intOf]; done) | (simp [intOf]; omega)
                  · refine wp_litS (d := some 52) (e := 9) sub rfl (by go_simp) ?_
                    intro gm14x40 wm14x39 hgm14x41 hcm14x42 grm14x43
                    have Cm14x45 := Lib.hid (HCd.out.kept grm14x43)
                    have Om14x46 := Lib.hid (HOd.out.kept_ grm14x43)
                    have Rm14x47 := Lib.hid (HRd.out.kept grm14x43)
                    have Gm14x48 := Lib.hid (grown_trans' HGd.out grm14x43)
                    have cm14x49 := Cm14x45.out.at_ (i := 0) (v := v) rfl
                    refine hK.out _ _ (hS0.trans (below_row grm14x43 (by have := HRd.out.lt; omega) (fun x hx => by cases hx))) (fun hSm14x44 => ?_)
                    clear hK K hgm14x41
                    try simp only [Act.put, List.setIfInBounds_toArray, List.set_cons_zero, List.set_cons_succ]
                    refine heldb_one (i := 1) rfl (by kernel_rfl) rfl (fun K hK => ?_)
                    go_simp
                    refine hK.out _ _ hSm14x44 (fun hSm14x50 => ?_)
                    clear hK K
                    try simp only [Act.put, List.setIfInBounds_toArray, List.set_cons_zero, List.set_cons_succ]
                    refine heldb_one (i := 7) rfl (by kernel_rfl) rfl (fun K hK => ?_)
                    refine wp_appS (d := some 53) strT rfl (.tmp 47) (.tmp 52) rfl Om14x46.out hcm14x42 rfl rfl HDL.out (by have := Rm14x47.out.lt; omega) ?_
                    intro vm14x51 wm14x52 om14x53 gm14x54 hatm14x55
                    have Cm14x57 := Lib.hid (Cm14x45.out.row_ gm14x54 HNE.out)
                    have Rm14x59 := Lib.hid (Rm14x47.out.row_ gm14x54 (fun x hx => by have := (Om14x46.out.shape_lt x hx).1; omega))
                    have Gm14x60 := Lib.hid (grownR Gm14x48.out gm14x54 (fun x hx => by have := (Om14x46.out.shape_lt x hx).1; omega))
                    have Nm14x61 := Lib.hid (show ∀ x, vm14x51.ownBlock = some x → x ≠ w.heap.size + 1 from fun x hx => by
                      rcases hatm14x55 with h | h
                      · exact HNE.out x (h ▸ hx)
                      · rw [h] at hx; injection hx with hx; have := Cm14x45.out.lt; omega)
                    obtain ⟨A2, c2, Vm14x62, -, -⟩ := om14x53.shape
                    have Om14x58 := Lib.hid om14x53
                    have Vm14x62h := Lib.hid Vm14x62
                    refine hK.out _ _ (hSm14x50.trans (below_row gm14x54 (by have := Rm14x47.out.lt; omega) (fun x hx => (Om14x46.out.shape_lt x hx).1))) (fun hSm14x56 => ?_)
                    clear hK K om14x53 gm14x54 hatm14x55 Vm14x62
                    try simp only [Act.put, List.setIfInBounds_toArray, List.set_cons_zero, List.set_cons_succ]
                    refine heldb_take (i := 8) (d := some 54) (v := ?vqm14x63) (by assumption) rfl rfl (by kernel_rfl) (fun _ _ _ h => h) ?yqm14x63 ?_; case yqm14x63 => (refine Or.inl ⟨rfl, fun wx hS => ?_⟩; go_simp; try with_reducible rfl)
                    try simp only [Act.put, List.setIfInBounds_toArray, List.set_cons_zero, List.set_cons_succ]
                    refine heldb_one (i := 9) rfl (by kernel_rfl) rfl (fun K hK => ?_)
                    refine wp_storeC (d := none) (off := 0) (p := [vm14x51]) slSize rfl (.tmp 54) (.tmp 53) rfl vm14x51 (by rw [Vm14x62h.out]; rfl) (fun u hu => by rw [List.mem_singleton.1 hu, Vm14x62h.out]; rfl) Cm14x57.out rfl (by simp) rfl rfl ?_
                    intro wm14x64 cm14x65 gm14x66
                    have Cm14x68 := Lib.hid (show CB wm14x64 (w.heap.size + 1) 66 [vm14x51, .string r] from cm14x65)
                    have Om14x69 := Lib.hid (Om14x58.out.row gm14x66 Nm14x61.out)
                    have Rm14x70 := Lib.hid (Rm14x59.out.grown gm14x66 (by omega))
                    have Gm14x71 := Lib.hid (none_new Gm14x60.out gm14x66 (by omega))
                    refine hK.out _ _ (hSm14x56.trans (below_row gm14x66 (by have := Rm14x59.out.lt; omega) (fun x hx => by injection hx with hx; omega))) (fun hSm14x67 => ?_)
                    clear hK K cm14x65 gm14x66
                    refine held_end (by kernel_rfl) ?_ _
                    go_wp2
                    go_roundw
                    case rel => exact ⟨k + 1, k + 1, vm14x51, done ++ [sub], by go_num, by go_num, by omega, by omega, Cm14x68.out, Om14x69.out, Nm14x61.out, by rw [List.length_append]; have := HDK.out; simp; omega, Gm14x71.out, Rm14x70.out, HNX.out⟩
                    case measure => first | (simp [intOf]; done) | (simp [intOf]; omega)
                · have HNX := Lib.hid (show ((k + 1 ≤ a.length ∧ pieces1 47 a = dl done ++ pieces1 47 (a.drop fr) ∧ (47 : UInt8) ∉ (a.drop fr).take (k + 1 - fr)) ∨ (k + 1 = a.length + 1 ∧ dl done = pieces1 47 a)) from .inl ⟨by omega, hp1, parts_keep hfr hlt2 hp2 hs47⟩)
                  have hn47 : ((a[k].toNat : Int) == 47) = false := by
                    rw [beq_eq_false_iff_ne]
                    intro e
                    exact hs47 (UInt8.toNat_inj.1 (by show a[k].toNat = 47; omega))
                  have hke : ((k : Int) == (a.length : Int)) = false := by rw [beq_eq_false_iff_ne]; omega
                  generalize a[k] = c at hg2 hn47
                  have HCx := Lib.hid hc
                  have HOx := Lib.hid ho
                  have HGx := Lib.hid hg
                  have HR0x := Lib.hid hr0
                  clear hst hp1 hp2 hxa hsd hne hdk hs47 hc ho hg hr0
                  go_wp2
                  go_roundw
                  case rel => exact ⟨k + 1, fr, v, done, by go_num, rfl, by omega, by omega, HCx.out, HOx.out, HNE.out, by have := HDK.out; omega, HGx.out, HR0x.out, HNX.out⟩
                  case measure => simp [intOf]; omega
            · have hki : ¬ (k : Int) ≤ (a.length : Int) := by omega
              have hdl : dl done = pieces1 47 a := by
                rcases hst with h | h
                · omega
                · exact h.2
              obtain ⟨A, c, rfl, hrs, -⟩ := ho.shape
              obtain ⟨n, hn⟩ : ∃ n, done.length = n := ⟨_, rfl⟩
              rw [hn] at hc ho
              have hc1 := cut1_at 64 b a HNA.out
              rw [← HAB.out] at hc1
              have HPO := Lib.hid (show partsOf l = dl done by rw [partsOf, hc1, hdl])
              have HRO := Lib.hid (show realmOf l = r.data.toList by rw [realmOf, hc1, HRR.out])
              have HSZ := Lib.hid (show ∀ s ∈ done, s.size ≤ 1000000 from fun s hs' => by
                have h1 : s.data.toList ∈ dl done := List.mem_map.2 ⟨s, hs', rfl⟩
                rw [hdl] at h1
                have h2 := pieces1_mem 47 a _ h1
                have h3 : s.size = s.data.toList.length := rfl
                omega)
              have HRZ := Lib.hid (show r.size ≤ 1000000 by
                have h2 : r.size = r.data.toList.length := rfl
                rw [HRR.out] at h2
                omega)
              have HCa := Lib.hid hc
              have HOa := Lib.hid ho
              have HGa := Lib.hid hg
              have HRa := Lib.hid hr0
              have HRS := Lib.hid hrs
              have HN := Lib.hid hn
              clear hc ho hg hr0 hrs hn hne hdk hst hdl hc1
              cases hp : nameOk (dl done) r.data.toList with
              | false =>
                have HP := Lib.hid hp
                clear hp
                go_wp2_with (first
                  | refine wpList_loadC (off := 0) (p := [.slice A n c, .string r]) aggN rfl (.tmp 6) rfl HCa.out rfl (Nat.le_refl _) rfl ?_
                  | (go_at_call 44; refine (right_any A done c r _ HRS.out HSZ.out HRZ.out n HN.out).mono ?_; rintro e w4 ⟨rfl, hb4⟩; rw [HP.out]; have HG4 := Lib.hid (grown_trans' HGa.out (none_of_below hb4 (Nat.le_refl _))); have HR4 := Lib.hid (HRa.out.below hb4 HRa.out.lt); clear hb4)
                  | (refine wpList_storeC (off := 0) (p := zeroN) aggN.hi rfl (.tmp 2) (.tmp 60) rfl (.agg zeroN.toArray) rfl (nm_one _ _ _ _) HR4.out rfl (Nat.le_refl _) (by first | rfl | go_simp) rfl ?_; intro w8 h8 g8; rw [show over zeroN 0 zeroN = zeroN from rfl] at h8))
                refine bodyPost_ret (results_C2 rfl _ aggN h8 rfl rfl rfl) rfl ?_
                rw [RefParsed, if_neg (by rw [parses, HPO.out, HRO.out, HP.out]; simp)]
                exact ⟨rfl, below_of_none (none_new HG4.out g8 (Nat.le_refl _))⟩
              | true =>
                have HP := Lib.hid hp
                clear hp
                go_wp2_with (first
                  | (have hx := HC4; clear hx; refine wpList_loadC (off := 0) (p := [.slice A n c, .string r]) aggN rfl (.tmp 6) rfl HC4.out rfl (Nat.le_refl _) rfl ?_)
                  | refine wpList_loadC (off := 0) (p := [.slice A n c, .string r]) aggN rfl (.tmp 6) rfl HCa.out rfl (Nat.le_refl _) rfl ?_
                  | (go_at_call 44; refine (right_any A done c r _ HRS.out HSZ.out HRZ.out n HN.out).mono ?_; rintro e w4 ⟨rfl, hb4⟩; rw [HP.out]; have HG4 := Lib.hid (grown_trans' HGa.out (none_of_below hb4 (Nat.le_refl _))); have HR4 := Lib.hid (HRa.out.below hb4 HRa.out.lt); have HC4 := Lib.hid (HCa.out.below hb4 HCa.out.lt); have HO4 := Lib.hid (HOa.out.kept_ (none_of_below hb4 (Nat.le_refl _))); clear hb4)
                  | (refine wpList_storeC (off := 0) (p := [.slice A n c, .string r]) aggN.hi rfl (.tmp 2) (.tmp 61) rfl (.agg #[.slice A n c, .string r]) rfl (nm_one _ _ _ _) HR4.out rfl (Nat.le_refl _) (by first | rfl | go_simp) rfl ?_; intro w8 h8 g8; rw [over_nm _ _ _ rfl] at h8))
                refine bodyPost_ret (results_C2 rfl _ aggN h8 rfl rfl rfl) rfl ?_
                rw [RefParsed, if_pos (by rw [parses, HPO.out, HRO.out]; exact HP.out)]
                have hn3 : n ≤ 3 := by have := (nameOk_iff.1 HP.out).1; rw [dl_length, HN.out] at this; omega
                obtain ⟨A2, c2, hv2, hrs2, -⟩ := (HO4.out.row g8 (fun x hx => by have := (HO4.out.shape_lt x hx).1; omega)).shape
                injection hv2 with e1 e2 e3
                subst e1 e3
                exact ⟨A, n, c, done, r, rfl, HN.out, hn3, HPO.out.symm, HRO.out.symm, hrs2, below_of_none (none_new HG4.out g8 (Nat.le_refl _))⟩
end Go.Proofs.YtfpcabfpnekejaaDoor
