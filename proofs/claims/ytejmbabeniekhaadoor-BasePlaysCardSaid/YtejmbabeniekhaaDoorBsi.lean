/- The walk of BaseLast. -/
import Derived.Test.YtejmbabeniekhaaDoorBsh
import Derived.Test.YtejmbabeniekhaaDoorBsf
namespace Go.Proofs.YtejmbabeniekhaaDoor
open Go.RowKit Go.Maps Go.WideMaps

theorem ba_beqB (x y : List UInt8) : ((⟨x.toArray⟩ : ByteArray) == ⟨y.toArray⟩) = decide (x = y) := by
  show (x.toArray == y.toArray) = decide (x = y)
  rw [Bool.eq_iff_iff, decide_eq_true_iff]
  simp
def qEn (x y : En) (f : Field) : Bool := match f.offset with
  | 0 => decide (x.1 = y.1)
  | 1 => decide (x.2.1 = y.2.1)
  | 17 => decide (x.2.2.1 = y.2.2.1)
  | 18 => decide (x.2.2.2.1 = y.2.2.2.1)
  | _ => decide (x.2.2.2.2 = y.2.2.2.2)
theorem sz8B : (Tryd.prog.info? 5).map (·.size) = some 1 := by kernel_rfl
theorem aggKB : AggT Tryd.prog 49 16 := ⟨fun _ => by kernel_rfl, by kernel_rfl⟩
theorem enC_key {u : En} (h : enW u) : ((enC u).drop 1).take 16 = bcells u.2.1 := by
  show (bcells u.2.1 ++ [Value.int .i64 u.2.2.1, .int .i64 u.2.2.2.1, .bool u.2.2.2.2]).take 16 = _
  exact List.take_left' (by rw [bcells_length, h.lk])
set_option maxRecDepth 10000 in
theorem run_eqEn (x y : En) (hx : enW x) (hy : enW y) (w : World) : (Op.equalIn 10000 51 (.agg (enC x).toArray) (.agg (enC y).toArray)).run Tryd.prog w = .ok (decide (x = y)) w := by
  have hs := run_structE Tryd.underlying51 (by kernel_rfl) 9999 (enC x).toArray (enC y).toArray (qEn x y) (fun f hf => by
    simp only [List.mem_cons, List.not_mem_nil, or_false] at hf
    rcases hf with rfl | rfl | rfl | rfl | rfl
    · exact ⟨by decide, _, _, run_partXe (by intro w; kernel_rfl) (enC_name x), run_partXe (by intro w; kernel_rfl) (enC_name y), fun w => by rw [run_eqS Tryd.underlying9, ba_beqB]; rfl⟩
    · exact ⟨by decide, _, _, run_partAe (n := 16) aggKB (enC_key hx), run_partAe (n := 16) aggKB (enC_key hy), fun w => by
        have := run_arrB Tryd.underlying49 sz8B Tryd.underlying5 hx.lk hy.lk 9997 w
        rw [this]
        congr 1
        show (x.2.1 == y.2.1) = decide (x.2.1 = y.2.1)
        rw [Bool.eq_iff_iff, beq_iff_eq, decide_eq_true_iff]⟩
    · exact ⟨by decide, _, _, run_partXe (by intro w; kernel_rfl) (enC_life hx.lk), run_partXe (by intro w; kernel_rfl) (enC_life hy.lk), fun w => by rw [run_eqI Tryd.underlying2]; rfl⟩
    · exact ⟨by decide, _, _, run_partXe (by intro w; kernel_rfl) (enC_flags hx.lk), run_partXe (by intro w; kernel_rfl) (enC_flags hy.lk), fun w => by rw [run_eqI Tryd.underlying3]; rfl⟩
    · exact ⟨by decide, _, _, run_partXe (by intro w; kernel_rfl) (enC_off hx.lk), run_partXe (by intro w; kernel_rfl) (enC_off hy.lk), fun w => by
        rw [run_eqBo Tryd.underlying4]
        congr 1⟩) w
  rw [hs]
  congr 1
  rw [Bool.eq_iff_iff, decide_eq_true_iff]
  obtain ⟨x1, x2, x3, x4, x5⟩ := x
  obtain ⟨y1, y2, y3, y4, y5⟩ := y
  show ((decide (x1 = y1) && (decide (x2 = y2) && (decide (x3 = y3) && (decide (x4 = y4) && (decide (x5 = y5) && true))))) = true) ↔ _
  simp
theorem run_eqlB (t : TypeId) (A B : Array Value) (w : World) : (binOp .eql t (.agg A) (.agg B)).run Tryd.prog w = ((Op.equalIn 10000 t (.agg A) (.agg B)).run Tryd.prog w).andThen fun q w' => .ok (.bool q) w' := by
  simp [binOp, Op.equal, Op.maxDepth]
theorem run_eqlE (x y : En) (hx : enW x) (hy : enW y) (w : World) : (binOp .eql 51 (.agg (enC x).toArray) (.agg (enC y).toArray)).run Tryd.prog w = .ok (.bool (decide (x = y))) w := by
  rw [run_eqlB, run_eqEn x y hx hy w]; rfl
theorem enOk.w {e : En} (h : enOk e) : enW e := ⟨h.lk, h.li, h.fl⟩
theorem getB_off {w : World} {c b : Nat} {M : Em} (h : BS w c b M) {e : En} (he : (e.1, e) ∈ M) (ho : e.2.2.2.2 = true) : getE M e.1 zeroEn false :=
  ⟨(fun v hv hf => by rw [← key_mem h.2.1.1.1 he hv, ho] at hf; cases hf), fun _ _ _ => ⟨rfl, rfl⟩, fun _ => ⟨rfl, rfl⟩⟩

set_option maxRecDepth 10000 in
set_option maxHeartbeats 1000000 in
theorem last_great (w : World) (hM : ML w) (e : En) (A : Option Addr) (l : List Op9) (n cap : Nat) (hn : l.length = n) (hA : SR w w.heap.size A 21 (l.map op9C) cap) (hl : ∀ o ∈ l, op9W o) (hg : greatO9 l = true ∨ 300 < e.1.length) :
    Calls Tryd.prog 6 #[.agg (enC e).toArray, .slice A n cap] w fun x w' => x = .returned (.bool true) ∧ w.grownBy w' none := by
  have HM1 := Lib.hid (show ML (w.alloc (.cells (enC e).toArray 51)) from hM.below ((Below.refl _ _).alloc (Nat.le_refl _) _))
  have HG0 := Lib.hid (grown_alloc w (.cells (enC e).toArray 51) none)
  have HB0 := Lib.hid (CB.new w 51 (enC e))
  have HN := Lib.hid hn
  have HA := Lib.hid hA
  have HL := Lib.hid hl
  have TK0 := Lib.hid True.intro
  obtain ⟨G, hG⟩ : ∃ G, G = greatO9 l := ⟨_, rfl⟩
  have HGE := Lib.hid hG
  rw [← hG] at hg
  clear hM hn hA hl hG
  cases G with
  | true =>
    clear hg
    go_enter Tryd.func6, Tryd.ntmps6
    go_wp2_with (first
      | (go_at_call 19; have hx := TK0; clear hx TK0; refine (bspeaks_any _ HM1.out).mono ?_; rintro x wa ⟨rfl, ga⟩; have GA := Lib.hid (grown_trans' HG0.out ga); clear ga)
      | (go_at_call 20; refine (bgreat_any _ A l n cap w.heap.size HN.out (HA.out.made GA.out (Nat.le_refl _)) GA.out.size HL.out).mono ?_; rintro x wb ⟨rfl, gb⟩; rw [← HGE.out]; have GB := Lib.hid (grown_trans' GA.out gb); clear gb))
    go_ret
    exact ⟨rfl, GB.out⟩
  | false =>
    have d1 : decide ((300 : Int) < (e.1.length : Int)) = true := decide_eq_true (by have := hg.resolve_left (by simp); omega)
    clear hg
    go_enter Tryd.func6, Tryd.ntmps6
    go_wp2_with (first
      | (go_at_call 19; have hx := TK0; clear hx TK0; refine (bspeaks_any _ HM1.out).mono ?_; rintro x wa ⟨rfl, ga⟩; have GA := Lib.hid (grown_trans' HG0.out ga); have BA := Lib.hid (HB0.out.kept ga); clear ga)
      | (go_at_call 20; refine (bgreat_any _ A l n cap w.heap.size HN.out (HA.out.made GA.out (Nat.le_refl _)) GA.out.size HL.out).mono ?_; rintro x wb ⟨rfl, gb⟩; rw [← HGE.out]; have GB := Lib.hid (grown_trans' GA.out gb); have q0 := (BA.out.kept gb).at_ (enC_name e); clear gb))
    go_ret
    exact ⟨rfl, GB.out⟩
set_option maxRecDepth 10000 in
set_option maxHeartbeats 2000000 in
theorem last_wrong (w : World) (hM : ML w) (e : En) (he : enW e) (A : Option Addr) (l : List Op9) (n cap : Nat) (hn : l.length = n) (hA : SR w w.heap.size A 21 (l.map op9C) cap) (hl : ∀ o ∈ l, op9W o) (hg : greatO9 l = false) (hln : e.1.length ≤ 300) (hr : rightE e = false) :
    Calls Tryd.prog 6 #[.agg (enC e).toArray, .slice A n cap] w fun x w' => x = .returned (.bool true) ∧ w.grownBy w' none := by
  have HM := Lib.hid hM
  have HM1 := Lib.hid (show ML (w.alloc (.cells (enC e).toArray 51)) from hM.below ((Below.refl _ _).alloc (Nat.le_refl _) _))
  have HG0 := Lib.hid (grown_alloc w (.cells (enC e).toArray 51) none)
  have HB0 := Lib.hid (CB.new w 51 (enC e))
  have HN := Lib.hid hn
  have HA := Lib.hid hA
  have HL := Lib.hid hl
  have HGE := Lib.hid hg
  have HEO := Lib.hid (he.ok (by omega))
  have HLE := Lib.hid (enC_length he.lk)
  have HLZ := Lib.hid (enC_length (e := zeroEn) (zeros_length 16))
  have HEN := Lib.hid hln
  have TK0 := Lib.hid True.intro
  have HR := Lib.hid (show putE [] e = ([], 1) by unfold putE; rw [hr, if_pos rfl])
  have d1 : decide ((300 : Int) < (e.1.length : Int)) = false := decide_eq_false (by omega)
  have HGET := Lib.hid (show getE [] e.1 zeroEn false from ⟨(fun v hv _ => by cases hv), (fun v hv _ => by cases hv), fun _ => ⟨rfl, rfl⟩⟩)
  clear hM hn hA hl hg hln hr he
  go_enter Tryd.func6, Tryd.ntmps6
  go_wp2_with (first
    | (go_at_call 19; have hx := TK0; clear hx TK0; refine (bspeaks_any _ HM1.out).mono ?_; rintro x wa ⟨rfl, ga⟩; have GA := Lib.hid (grown_trans' HG0.out ga); have BA := Lib.hid (HB0.out.kept ga); clear ga)
    | (go_at_call 20; refine (bgreat_any _ A l n cap w.heap.size HN.out (HA.out.made GA.out (Nat.le_refl _)) GA.out.size HL.out).mono ?_; rintro x wb ⟨rfl, gb⟩; rw [HGE.out]; have GB := Lib.hid (grown_trans' GA.out gb); have BB1 := Lib.hid (BA.out.kept gb); have q0 := BB1.out.at_ (enC_name e); clear gb)
    | (go_at_call 21; refine (bnew_any _).mono ?_; rintro x w1 ⟨rfl, h1, g1⟩; have H1 := Lib.hid h1; have G1 := Lib.hid (grown_trans' GB.out g1); have B1 := Lib.hid (BB1.out.kept g1); have HNE := Lib.hid (show w.heap.size ≠ wb.heap.size ∧ w.heap.size < wb.heap.size by have h2 := BB1.out.lt; omega); have TK1 := Lib.hid True.intro; clear h1 g1 q0)
    | (have hx := TK1; clear hx TK1; refine wpList_loadC (off := 0) (p := enC e) aggE rfl (.tmp 2) rfl B1.out (take_all HLE.out) (by rw [HLE.out]; omega) (by first | rfl | go_simp) ?_; have TK2 := Lib.hid True.intro)
    | (go_at_call 24; have hx := TK2; clear hx TK2; refine (put_at e HEO.out _ w HM.out G1.out _ _ _ H1.out (by simp) _ rfl _ _ HR.out).mono ?_; rintro x w2 ⟨rfl, h2, g2⟩; have H2 := Lib.hid h2; have G2 := Lib.hid (none_new G1.out g2 GB.out.size); have B2 := Lib.hid (B1.out.grown g2 HNE.out.1); have q1 := B2.out.at_ (enC_name e); have q2 := B2.out.at_ (enC_off (e := e) HEO.out.lk); clear h2 g2)
    | (go_at_call 26; refine (get_any e.1 (by have := HEN.out; omega) _ _ _ _ H2.out zeroEn false HGET.out).mono ?_; rintro x w3 ⟨rfl, g3⟩; have H3 := Lib.hid (H2.out.none g3); have G3 := Lib.hid (grown_trans' G2.out g3); have TK3 := Lib.hid True.intro; clear g3)
    | (have hx := TK3; clear hx TK3; refine wpList_allocC zeroE_run rfl rfl ?_; have TK4 := Lib.hid True.intro)
    | (have hx := TK4; clear hx TK4; refine wpList_storeC (off := 0) (p := enC zeroEn) aggE.hi rfl (.tmp 6) (.tmp 34) rfl (enV zeroEn) rfl (enC_one zeroEn) (CB.new w3 51 (enC zeroEn)) HLZ.out (by rw [HLZ.out]; omega) (by first | rfl | go_simp) (by first | rfl | go_simp) ?_; intro w4 h4 g4; have G4' := Lib.hid (none_new (grown_alloc w3 (.cells (enC zeroEn).toArray 51) none) g4 (Nat.le_refl _)); have H4 := Lib.hid (H3.out.none G4'.out); have G4 := Lib.hid (grown_trans' G3.out G4'.out); clear h4 g4)
    | (go_at_call 28; refine (list_any _ _ _ _ H4.out (by simp)).mono ?_; rintro x w5 ⟨v, ks, rfl, hk, hv, g5⟩; obtain ⟨A5, c5, hv5, -⟩ := hv.shape; have hkl : ks.length = 0 := by (rw [hk.1.length_eq]; rfl)
       rw [List.length_map, List.length_map, hkl] at hv5; subst hv5; have G5 := Lib.hid (grown_trans' G4.out g5); clear g5 hv hk hkl))
  go_ret
  exact ⟨rfl, G5.out⟩

set_option maxRecDepth 10000 in
set_option maxHeartbeats 4000000 in
theorem last_right (w : World) (hM : ML w) (e : En) (he : enW e) (A : Option Addr) (l : List Op9) (n cap : Nat) (hn : l.length = n) (hA : SR w w.heap.size A 21 (l.map op9C) cap) (hl : ∀ o ∈ l, op9W o) (hg : greatO9 l = false) (hln : e.1.length ≤ 300) (hr : rightE e = true) :
    Calls Tryd.prog 6 #[.agg (enC e).toArray, .slice A n cap] w fun x w' => x = .returned (.bool true) ∧ w.grownBy w' none := by
  have HM := Lib.hid hM
  have HM1 := Lib.hid (show ML (w.alloc (.cells (enC e).toArray 51)) from hM.below ((Below.refl _ _).alloc (Nat.le_refl _) _))
  have HG0 := Lib.hid (grown_alloc w (.cells (enC e).toArray 51) none)
  have HB0 := Lib.hid (CB.new w 51 (enC e))
  have HN := Lib.hid hn
  have HA := Lib.hid hA
  have HL := Lib.hid hl
  have HGE := Lib.hid hg
  have HEO := Lib.hid (he.ok (by omega))
  have HLE := Lib.hid (enC_length he.lk)
  have HLZ := Lib.hid (enC_length (e := zeroEn) (zeros_length 16))
  have HEN := Lib.hid hln
  have TK0 := Lib.hid True.intro
  have HR := Lib.hid (show putE [] e = ([(e.1, e)], 0) by unfold putE; rw [hr, if_neg (by simp), if_neg (by simp)]; rfl)
  have d1 : decide ((300 : Int) < (e.1.length : Int)) = false := decide_eq_false (by omega)
  have N0 := Lib.hid (show n ≤ 60 by rw [← hn]; exact great_len9 hg)
  have HEQ := Lib.hid (show ∀ w, (binOp .eql 51 (.agg (enC e).toArray) (.agg (enC e).toArray)).run Tryd.prog w = .ok (.bool true) w from fun w => by rw [run_eqlE e e he he w, decide_eq_true rfl])
  clear hM hn hA hl hg hln hr he
  go_enter Tryd.func6, Tryd.ntmps6
  go_wp2_with (first
    | (go_at_call 19; have hx := TK0; clear hx TK0; refine (bspeaks_any _ HM1.out).mono ?_; rintro x wa ⟨rfl, ga⟩; have GA := Lib.hid (grown_trans' HG0.out ga); have BA := Lib.hid (HB0.out.kept ga); clear ga)
    | (go_at_call 20; refine (bgreat_any _ A l n cap w.heap.size HN.out (HA.out.made GA.out (Nat.le_refl _)) GA.out.size HL.out).mono ?_; rintro x wb ⟨rfl, gb⟩; rw [HGE.out]; have GB := Lib.hid (grown_trans' GA.out gb); have BB1 := Lib.hid (BA.out.kept gb); have q0 := BB1.out.at_ (enC_name e); clear gb)
    | (go_at_call 21; refine (bnew_any _).mono ?_; rintro x w1 ⟨rfl, h1, g1⟩; have H1 := Lib.hid h1; have G1 := Lib.hid (grown_trans' GB.out g1); have B1 := Lib.hid (BB1.out.kept g1); have HNE := Lib.hid (show w.heap.size ≠ wb.heap.size ∧ w.heap.size < wb.heap.size by have h2 := BB1.out.lt; omega); have TK1 := Lib.hid True.intro; clear h1 g1 q0)
    | (have hx := TK1; clear hx TK1; refine wpList_loadC (off := 0) (p := enC e) aggE rfl (.tmp 2) rfl B1.out (take_all HLE.out) (by rw [HLE.out]; omega) (by first | rfl | go_simp) ?_; have TK2 := Lib.hid True.intro)
    | (go_at_call 24; have hx := TK2; clear hx TK2; refine (put_at e HEO.out _ w HM.out G1.out _ _ _ H1.out (by simp) _ rfl _ _ HR.out).mono ?_; rintro x w2 ⟨rfl, h2, g2⟩; have H2 := Lib.hid h2; have G2 := Lib.hid (none_new G1.out g2 GB.out.size); have B2 := Lib.hid (B1.out.grown g2 HNE.out.1); have q1 := B2.out.at_ (enC_name e); have q2 := B2.out.at_ (enC_off (e := e) HEO.out.lk); clear h2 g2))
  clear d1 q1 q2
  obtain ⟨c, hc⟩ : ∃ c, wb.heap.size + 1 = c := ⟨_, rfl⟩
  obtain ⟨b, hb⟩ : ∃ b, wb.heap.size = b := ⟨_, rfl⟩
  obtain ⟨g0, hg0⟩ : ∃ g0, w.heap.size = g0 := ⟨_, rfl⟩
  have HCE := Lib.hid (show w.heap.size ≤ b ∧ g0 ≠ b ∧ g0 < b ∧ c = b + 1 by have h1 := GB.out.size; have h2 := HNE.out; omega)
  rw [hc, hb] at H2
  rw [hg0] at B2
  rw [hc, hg0]
  clear hc hb hg0
  go_loopw [46] (fun v wr => ∃ (k : Nat) (M : Em), k ≤ n ∧ v = .int .i64 k ∧ BS wr c b M ∧ (e.1, e) ∈ M ∧ M.length ≤ 16 ∧ CB wr g0 51 (enC e) ∧ w.grownBy wr none) (fun v _ => n - (intOf v).toNat)
  case atStart => exact ⟨0, _, Nat.zero_le _, rfl, H2.out, by simp, by simp, B2.out, G2.out⟩
  case round =>
    obtain ⟨k, M, hk, rfl, hS, hin, hlen, hB, hW⟩ := hrel
    have HS := Lib.hid hS
    have HIN := Lib.hid hin
    have HLEN := Lib.hid hlen
    have HB := Lib.hid hB
    have HW := Lib.hid hW
    have hn0 := N0.out
    by_cases hlt : k < n
    · obtain ⟨o, ho⟩ : ∃ o, o = l[k]'(by rw [HN.out]; exact hlt) := ⟨_, rfl⟩
      obtain ⟨ab, ao, hAe, hab, hcells⟩ := HA.out.elem (k := k) (by rw [List.length_map, HN.out]; exact hlt)
      have HOW := Lib.hid (show op9W o by rw [ho]; exact HL.out _ (List.getElem_mem _))
      have HON := Lib.hid (show o.2.1.length ≤ 300 from great_name9 HGE.out (by rw [ho]; exact List.getElem_mem _))
      have hce : (l.map op9C)[k]'(by rw [List.length_map, HN.out]; exact hlt) = op9C o := by rw [List.getElem_map, ho]
      rw [hce] at hcells
      have HCELL := Lib.hid (show ∀ j v, (op9C o)[j]? = some v → wr.cell? ⟨ab, ao + 21 * k + j, none⟩ = some v from fun j v hj => ((below_of_none HW.out).cell (p := ⟨ab, _, none⟩) hab).trans (hcells j v hj))
      have HLO := Lib.hid (enC_length HOW.out.e.lk)
      have HOO := Lib.hid (HOW.out.e.ok (by have := HON.out; omega))
      have qe := hB.at_ (enC_name e)
      have HGZ := Lib.hid (show g0 ≠ wr.heap.size from fun e => by have := hB.lt; omega)
      have TK5 := Lib.hid True.intro
      subst hAe
      clear hce hcells ho hab hS hin hlen hB hW
      have HB1 := Lib.hid (CB.new wr 53 zeroO9)
      by_cases hq : o.2.1 = e.1
      · have HQ := Lib.hid hq
        clear hq
        go_wp2_with (first
          | (have hx := TK5; clear hx TK5; refine wpList_loadX (p := op9C o) aggO9 rfl (.tmp 48) rfl (b := ab) (off := ao + 21 * k) HCELL.out (op9C_len HOW.out) (by first | rfl | go_simp) ?_; have TK6 := Lib.hid True.intro)
          | (have hx := TK6; clear hx TK6; refine wpList_allocC zeroO9_run rfl rfl ?_; have TK7 := Lib.hid True.intro)
          | (have hx := TK7; clear hx TK7; refine wpList_storeC (off := 0) (p := op9C o) aggO9.hi rfl (.tmp 9) (.tmp 49) rfl (.agg (op9C o).toArray) rfl (op9C_one o) HB1.out (op9C_len HOW.out) (by rw [zeroO9_length]; omega) (by first | rfl | go_simp) (by first | rfl | go_simp) ?_; intro w3 h3 g3; rw [over_all _ _ (Nat.le_of_eq (by rw [zeroO9_length, op9C_len HOW.out]))] at h3; have O3 := Lib.hid h3; have W3' := Lib.hid (none_new (grown_alloc wr (.cells zeroO9.toArray 53) none) g3 (Nat.le_refl _)); have W2 := Lib.hid (grown_trans' HW.out W3'.out); have S2 := Lib.hid (HS.out.none W3'.out); have B3 := Lib.hid (HB.out.kept W3'.out); have q0 := h3.at_ (op9C_name o); have qk := h3.at_ (op9C_k o); have qe := B3.out.at_ (enC_name e); rw [HQ.out] at q0; clear h3 g3))
        go_roundw
        case rel => exact ⟨k + 1, M, by omega, by go_num, S2.out, HIN.out, HLEN.out, B3.out, W2.out⟩
        case measure => simp [intOf]; omega
      · have HNQ := Lib.hid hq
        have hqs : (o.2.1 == e.1) = false := beq_eq_false_iff_ne.2 hq
        have hand := b64_and1 o.1
        clear hq
        rcases (show o.1 % 2 = 0 ∨ o.1 % 2 = 1 by omega) with h2 | h2
        · rw [h2] at hand
          obtain ⟨B, hBk⟩ : ∃ B : Bool, B = true ↔ o.2.1 ∈ keysM M := ⟨decide (o.2.1 ∈ keysM M), decide_eq_true_iff⟩
          have HBK := Lib.hid hBk
          clear h2 hBk
          go_wp2_with (first
            | (have hx := TK5; clear hx TK5; refine wpList_loadX (p := op9C o) aggO9 rfl (.tmp 48) rfl (b := ab) (off := ao + 21 * k) HCELL.out (op9C_len HOW.out) (by first | rfl | go_simp) ?_; have TK6 := Lib.hid True.intro)
            | (have hx := TK6; clear hx TK6; refine wpList_allocC zeroO9_run rfl rfl ?_; have TK7 := Lib.hid True.intro)
            | (have hx := TK7; clear hx TK7; refine wpList_storeC (off := 0) (p := op9C o) aggO9.hi rfl (.tmp 9) (.tmp 49) rfl (.agg (op9C o).toArray) rfl (op9C_one o) HB1.out (op9C_len HOW.out) (by rw [zeroO9_length]; omega) (by first | rfl | go_simp) (by first | rfl | go_simp) ?_; intro w3 h3 g3; rw [over_all _ _ (Nat.le_of_eq (by rw [zeroO9_length, op9C_len HOW.out]))] at h3; have O3 := Lib.hid h3; have W3' := Lib.hid (none_new (grown_alloc wr (.cells zeroO9.toArray 53) none) g3 (Nat.le_refl _)); have W2 := Lib.hid (grown_trans' HW.out W3'.out); have S2 := Lib.hid (HS.out.none W3'.out); have B3 := Lib.hid (HB.out.kept W3'.out); have q0 := h3.at_ (op9C_name o); have qk := h3.at_ (op9C_k o); have qe := B3.out.at_ (enC_name e); clear h3 g3)
            | (go_at_call 22; refine (drop_any o.2.1 (by have := HON.out; omega) _ _ _ _ S2.out B HBK.out).mono ?_; rintro x w4 ⟨rfl, h4, g4⟩; have S4 := Lib.hid h4; have W4 := Lib.hid (none_new W2.out g4 HCE.out.1); have B4 := Lib.hid (B3.out.grown g4 HCE.out.2.1); clear h4 g4))
          go_roundw
          case rel => exact ⟨k + 1, _, by omega, by go_num, S4.out, drop_keeps HIN.out HNQ.out, Nat.le_trans (without_len _ _) HLEN.out, B4.out, W4.out⟩
          case measure => simp [intOf]; omega
        · rw [h2] at hand
          clear h2
          go_wp2_with (first
            | (have hx := TK5; clear hx TK5; refine wpList_loadX (p := op9C o) aggO9 rfl (.tmp 48) rfl (b := ab) (off := ao + 21 * k) HCELL.out (op9C_len HOW.out) (by first | rfl | go_simp) ?_; have TK6 := Lib.hid True.intro)
            | (have hx := TK6; clear hx TK6; refine wpList_allocC zeroO9_run rfl rfl ?_; have TK7 := Lib.hid True.intro)
            | (have hx := TK7; clear hx TK7; refine wpList_storeC (off := 0) (p := op9C o) aggO9.hi rfl (.tmp 9) (.tmp 49) rfl (.agg (op9C o).toArray) rfl (op9C_one o) HB1.out (op9C_len HOW.out) (by rw [zeroO9_length]; omega) (by first | rfl | go_simp) (by first | rfl | go_simp) ?_; intro w3 h3 g3; rw [over_all _ _ (Nat.le_of_eq (by rw [zeroO9_length, op9C_len HOW.out]))] at h3; have O3 := Lib.hid h3; have W3' := Lib.hid (none_new (grown_alloc wr (.cells zeroO9.toArray 53) none) g3 (Nat.le_refl _)); have W2 := Lib.hid (grown_trans' HW.out W3'.out); have S2 := Lib.hid (HS.out.none W3'.out); have B3 := Lib.hid (HB.out.kept W3'.out); have q0 := h3.at_ (op9C_name o); have qk := h3.at_ (op9C_k o); have qe := B3.out.at_ (enC_name e); have TK8 := Lib.hid True.intro; clear h3 g3)
            | (have hx := TK8; clear hx TK8; refine wpList_loadC (off := 1) (p := enC o.2) aggE rfl (.tmp 66) rfl O3.out (op9C_en HOW.out) (by rw [op9C_len HOW.out]; omega) (by first | rfl | go_simp) ?_)
            | (go_at_call 24; refine (put_any o.2 HOO.out _ (HM.out.below (below_of_none W2.out)) c b M S2.out (by have := HLEN.out; omega)).mono ?_; rintro x w4 ⟨rfl, h4, g4⟩; have S4 := Lib.hid h4; have W4 := Lib.hid (none_new W2.out g4 HCE.out.1); have B4 := Lib.hid (B3.out.grown g4 HCE.out.2.1); clear h4 g4))
          go_roundw
          case rel => exact ⟨k + 1, _, by omega, by go_num, S4.out, put_keeps HIN.out HNQ.out, put_most HS.out.2.1.1.1 HLEN.out o.2, B4.out, W4.out⟩
          case measure => simp [intOf]; omega
    · have HNM := Lib.hid (mem_keysM.2 ⟨e, hin⟩)
      have d16 : decide ((M.length : Int) ≤ 16) = true := decide_eq_true (by omega)
      have qe := hB.at_ (enC_name e)
      have TK5 := Lib.hid True.intro
      have heq := HEQ.out
      clear hS hin hlen hB hW
      cases ho : e.2.2.2.2 with
      | true =>
        have HO := Lib.hid ho
        clear ho
        go_wp2_with (first
          | (go_at_call 26; refine (get_any e.1 (by have := HEN.out; omega) _ _ _ _ HS.out zeroEn false (getB_off HS.out HIN.out HO.out)).mono ?_; rintro x w3 ⟨rfl, g3⟩; have S3 := Lib.hid (HS.out.none g3); have W3 := Lib.hid (grown_trans' HW.out g3); have B3 := Lib.hid (HB.out.kept g3); have TK6 := Lib.hid True.intro; clear g3)
          | (have hx := TK6; clear hx TK6; refine wpList_allocC zeroE_run rfl rfl ?_; have TK7 := Lib.hid True.intro)
          | (have hx := TK7; clear hx TK7; refine wpList_storeC (off := 0) (p := enC zeroEn) aggE.hi rfl (.tmp 10) (.tmp 75) rfl (enV zeroEn) rfl (enC_one zeroEn) (CB.new w3 51 (enC zeroEn)) HLZ.out (by rw [HLZ.out]; omega) (by first | rfl | go_simp) (by first | rfl | go_simp) ?_; intro w4 h4 g4; have G4' := Lib.hid (none_new (grown_alloc w3 (.cells (enC zeroEn).toArray 51) none) g4 (Nat.le_refl _)); have S4 := Lib.hid (S3.out.none G4'.out); have W4 := Lib.hid (grown_trans' W3.out G4'.out); have B4 := Lib.hid (B3.out.kept G4'.out); have q4 := B4.out.at_ (enC_off HEO.out.lk); rw [HO.out] at q4; have TK8 := Lib.hid True.intro; clear h4 g4 qe)
          | (go_at_call 28; refine (list_any _ _ _ _ S4.out (by have := HLEN.out; omega)).mono ?_; rintro x w5 ⟨v, ks, rfl, hk, hv, g5⟩; obtain ⟨A5, c5, hv5, -⟩ := hv.shape; have hkl : ks.length = M.length := by (rw [hk.1.length_eq]; unfold keysM; rw [List.length_map])
             rw [List.length_map, List.length_map, hkl] at hv5; subst hv5; have S5 := Lib.hid (S4.out.none g5); have W5 := Lib.hid (grown_trans' W4.out g5); have B5 := Lib.hid (B4.out.kept g5); have q5 := B5.out.at_ (enC_name e); clear g5 hv hk hkl q4)
          | (go_at_call 22; have hx := TK8; clear hx TK8; refine (drop_any e.1 (by have := HEN.out; omega) _ _ _ _ S5.out true ⟨fun _ => HNM.out, fun _ => rfl⟩).mono ?_; rintro x w6 ⟨rfl, h6, g6⟩; have S6 := Lib.hid h6; have W6 := Lib.hid (none_new W5.out g6 HCE.out.1); have q6 := (B5.out.grown g6 HCE.out.2.1).at_ (enC_name e); have TK9 := Lib.hid True.intro; clear h6 g6 q5)
          | (go_at_call 22; have hx := TK9; clear hx TK9; refine (drop_any e.1 (by have := HEN.out; omega) _ _ _ _ S6.out false ⟨(fun h => by cases h), fun h => absurd h (drop_gone M e.1)⟩).mono ?_; rintro x w7 ⟨rfl, h7, g7⟩; have W7 := Lib.hid (none_new W6.out g7 HCE.out.1); clear h7 g7))
        go_ret
        exact ⟨rfl, W7.out⟩
      | false =>
        have HO := Lib.hid ho
        clear ho
        go_wp2_with (first
          | (go_at_call 26; refine (get_any e.1 (by have := HEN.out; omega) _ _ _ _ HS.out e true (getB HS.out HIN.out HO.out)).mono ?_; rintro x w3 ⟨rfl, g3⟩; have S3 := Lib.hid (HS.out.none g3); have W3 := Lib.hid (grown_trans' HW.out g3); have B3 := Lib.hid (HB.out.kept g3); have TK6 := Lib.hid True.intro; clear g3)
          | (have hx := TK6; clear hx TK6; refine wpList_allocC zeroE_run rfl rfl ?_; have TK7 := Lib.hid True.intro)
          | (have hx := TK7; clear hx TK7; refine wpList_storeC (off := 0) (p := enC e) aggE.hi rfl (.tmp 10) (.tmp 75) rfl (enV e) rfl (enC_one e) (CB.new w3 51 (enC zeroEn)) HLE.out (by rw [HLZ.out]; omega) (by first | rfl | go_simp) (by first | rfl | go_simp) ?_; intro w4 h4 g4; rw [over_all _ _ (Nat.le_of_eq (by rw [HLZ.out, HLE.out]))] at h4; have C4 := Lib.hid h4; have G4' := Lib.hid (none_new (grown_alloc w3 (.cells (enC zeroEn).toArray 51) none) g4 (Nat.le_refl _)); have S4 := Lib.hid (S3.out.none G4'.out); have W4 := Lib.hid (grown_trans' W3.out G4'.out); have B4 := Lib.hid (B3.out.kept G4'.out); have q4 := B4.out.at_ (enC_off HEO.out.lk); rw [HO.out] at q4; have TK8 := Lib.hid True.intro; have TKa := Lib.hid True.intro; clear h4 g4 qe)
          | (have hx := TKa; refine wpList_loadCg (off := 0) (p := enC e) aggE (by first | rfl | go_simp) (.tmp 10) rfl C4.out (take_all HLE.out) (by rw [HLE.out]; omega) (by first | rfl | go_simp) ?_; clear hx TKa; have TKb := Lib.hid True.intro)
          | (have hx := TKb; refine wpList_loadCg (off := 0) (p := enC e) aggE (by first | rfl | go_simp) (.tmp 2) rfl B4.out (take_all HLE.out) (by rw [HLE.out]; omega) (by first | rfl | go_simp) ?_; clear hx TKb)
          | (go_at_call 28; refine (list_any _ _ _ _ S4.out (by have := HLEN.out; omega)).mono ?_; rintro x w5 ⟨v, ks, rfl, hk, hv, g5⟩; obtain ⟨A5, c5, hv5, -⟩ := hv.shape; have hkl : ks.length = M.length := by (rw [hk.1.length_eq]; unfold keysM; rw [List.length_map])
             rw [List.length_map, List.length_map, hkl] at hv5; subst hv5; have S5 := Lib.hid (S4.out.none g5); have W5 := Lib.hid (grown_trans' W4.out g5); have B5 := Lib.hid (B4.out.kept g5); have q5 := B5.out.at_ (enC_name e); clear g5 hv hk hkl q4)
          | (go_at_call 22; have hx := TK8; clear hx TK8; refine (drop_any e.1 (by have := HEN.out; omega) _ _ _ _ S5.out true ⟨fun _ => HNM.out, fun _ => rfl⟩).mono ?_; rintro x w6 ⟨rfl, h6, g6⟩; have S6 := Lib.hid h6; have W6 := Lib.hid (none_new W5.out g6 HCE.out.1); have q6 := (B5.out.grown g6 HCE.out.2.1).at_ (enC_name e); have TK9 := Lib.hid True.intro; clear h6 g6 q5)
          | (go_at_call 22; have hx := TK9; clear hx TK9; refine (drop_any e.1 (by have := HEN.out; omega) _ _ _ _ S6.out false ⟨(fun h => by cases h), fun h => absurd h (drop_gone M e.1)⟩).mono ?_; rintro x w7 ⟨rfl, h7, g7⟩; have W7 := Lib.hid (none_new W6.out g7 HCE.out.1); clear h7 g7))
        go_ret
        exact ⟨rfl, W7.out⟩

theorem walk_BaseLast (w : World) (hM : ML w) (e : En) (he : enW e) (A : Option Addr) (l : List Op9) (cap : Nat) (hA : SR w w.heap.size A 21 (l.map op9C) cap) (hl : ∀ o ∈ l, op9W o) :
    Calls Tryd.prog 6 #[.agg (enC e).toArray, .slice A l.length cap] w fun x w' => x = .returned (.bool true) ∧ Below w.heap.size w w' := by
  have go : Calls Tryd.prog 6 #[.agg (enC e).toArray, .slice A l.length cap] w fun x w' => x = .returned (.bool true) ∧ w.grownBy w' none := by
    by_cases hg : greatO9 l = true ∨ 300 < e.1.length
    · exact last_great w hM e A l _ cap rfl hA hl hg
    · have hg1 : greatO9 l = false := by
        cases h : greatO9 l with
        | true => exact absurd (Or.inl h) hg
        | false => rfl
      have hln : e.1.length ≤ 300 := by
        have : ¬ 300 < e.1.length := fun h => hg (Or.inr h)
        omega
      cases hr : rightE e with
      | false => exact last_wrong w hM e he A l _ cap rfl hA hl hg1 hln hr
      | true => exact last_right w hM e he A l _ cap rfl hA hl hg1 hln hr
  exact go.mono fun x w' h => ⟨h.1, below_of_none h.2⟩
end Go.Proofs.YtejmbabeniekhaaDoor
