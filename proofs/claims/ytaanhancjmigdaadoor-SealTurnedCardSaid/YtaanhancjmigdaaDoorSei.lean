/- The walk of the law SealNobody. -/
import Derived.Test.YtaanhancjmigdaaDoorSeg
import Derived.Test.YtaanhancjmigdaaDoorSeh
namespace Go.Proofs.YtaanhancjmigdaaDoor
open Go.RowKit Go.Maps

/-- Has a box been made under a key, for the use 1, that reads so? -/
def madeS (T : List Te) (key raw : List UInt8) : Bool := (List.range T.length).any fun j => match T[j]? with
  | some t => t.1 == key && (t.2.1 == 1 && boxN j == raw)
  | none => false
theorem madeS_next (T : List Te) (te : Te) (key raw : List UInt8) : madeS (T ++ [te]) key raw = (madeS T key raw || (te.1 == key && (te.2.1 == 1 && boxN T.length == raw))) := by
  unfold madeS
  rw [List.length_append, show T.length + [te].length = T.length + 1 from rfl, List.range_succ, List.any_append]
  congr 1
  · rw [Bool.eq_iff_iff, List.any_eq_true, List.any_eq_true]
    constructor
    · rintro ⟨j, hj, h⟩
      refine ⟨j, hj, ?_⟩
      rwa [List.getElem?_append_left (List.mem_range.1 hj)] at h
    · rintro ⟨j, hj, h⟩
      refine ⟨j, hj, ?_⟩
      rwa [List.getElem?_append_left (List.mem_range.1 hj)]
  · simp
theorem open_made (T : List Te) (key raw : List UInt8) (hT : T.length < 1000000) : (openS T key 1 raw).isSome = madeS T key raw := by
  rw [Bool.eq_iff_iff]
  unfold madeS
  rw [List.any_eq_true]
  constructor
  · intro h
    unfold openS at h
    split at h
    · rename_i hc
      split at h
      · rename_i t ht
        split at h
        · rename_i he
          refine ⟨numOf (raw.drop 1), List.mem_range.2 (List.getElem?_eq_some_iff.1 ht).1, ?_⟩
          rw [ht]
          have hb : boxN (numOf (raw.drop 1)) = raw := by
            unfold boxN
            rw [wide_of (by rw [List.length_drop]; omega)]
            cases raw with
            | nil => simp at hc
            | cons x l =>
              have := hc.2
              simp only [List.headD_cons] at this
              rw [this]
              rfl
          show (t.1 == key && (t.2.1 == 1 && boxN (numOf (raw.drop 1)) == raw)) = true
          rw [hb, he.1, he.2]
          simp
        · cases h
      · cases h
    · cases h
  · rintro ⟨j, hj, h⟩
    have hjl := List.mem_range.1 hj
    obtain ⟨t, ht⟩ : ∃ t, T[j]? = some t := ⟨_, List.getElem?_eq_getElem hjl⟩
    rw [ht] at h
    simp only [Bool.and_eq_true, beq_iff_eq] at h
    obtain ⟨h1, h2, h3⟩ := h
    unfold openS
    rw [← h3, if_pos ⟨boxN_len j, rfl⟩]
    have hn : numOf ((boxN j).drop 1) = j := numOf_wide j (by omega)
    rw [hn, ht]
    simp only
    rw [if_pos ⟨h1, h2⟩]
    rfl
theorem CB.wrs {w w' : World} {s g : Nat} {r : Option Nat} {t : TypeId} {cs : List Value} (h : CB w g t cs) (hw : Wrs w w' s r) (h1 : g ≠ s) (h2 : r ≠ some g) : CB w' g t cs := (hw.block g h.lt h1 (fun e => h2 e.symm)).trans h
theorem SS.off_cells {w : World} {B s d g : Nat} {r : Option Nat} {T : List Te} {t : TypeId} {cs : List Value} (h : SS w B s r T d) (hc : CB w g t cs) (h1 : 63 ≠ t) (h2 : 68 ≠ t) : g ≠ s ∧ r ≠ some g := by
  obtain ⟨-, -, v, rows, h0, h3, h4, -⟩ := h
  refine ⟨fun e => ?_, fun e => h4.ne_cells hc h2 (by rw [h0, e])⟩
  subst e
  have e2 : some (Obj.cells cs.toArray t (0, 0)) = some (Obj.cells (seC d T.length v).toArray 63 (0, 0)) := (show w.heap[g]? = _ from hc).symm.trans h3
  injection e2 with e2
  injection e2 with _ e2 _
  exact h1 e2.symm
theorem wrs_new2 {a b c : World} {s : Nat} {r : Option Nat} (h : a.grownBy b none) (k : Wrs b c s r) (hs : a.heap.size ≤ s) (hr : ∀ z, r = some z → a.heap.size ≤ z) : a.grownBy c none :=
  ⟨k.os.trans h.os, k.tape.trans h.tape, k.output.trans h.output, Nat.le_trans h.size k.size, fun i hi _ => (k.block i (Nat.lt_of_lt_of_le hi h.size) (by omega) (fun e => by have := hr i e.symm; omega)).trans (h.block i hi (by simp))⟩

set_option maxRecDepth 100000 in
set_option maxHeartbeats 8000000 in
theorem walk_SealNobody (w : World) (A : Option Addr) (l : List Op6) (cap : Nat) (hA : SR w w.heap.size A 20 (l.map op6C) cap) (hl : ∀ o ∈ l, op6W w o) (A1 : Option Addr) (raw : List UInt8) (cap1 : Nat) (hr : RB w w.heap.size A1 raw cap1) (key : List UInt8) (hk : key.length = 16) :
    Calls Tryd.prog 6 #[.slice A l.length cap, .slice A1 raw.length cap1, .agg (bcells key).toArray] w fun e w' => e = .returned (.bool true) ∧ Below w.heap.size w w' := by
  obtain ⟨n, hn⟩ : ∃ n, l.length = n := ⟨_, rfl⟩
  obtain ⟨nr, hnr⟩ : ∃ n, raw.length = n := ⟨_, rfl⟩
  rw [hn, hnr]
  have HN := Lib.hid hn
  have HNR := Lib.hid hnr
  have HA := Lib.hid hA
  have HL := Lib.hid hl
  have RW := Lib.hid hr
  have HK := Lib.hid hk
  have K0 := Lib.hid (CB.new w 23 (bcells key))
  have G0 := Lib.hid (grown_alloc w (.cells (bcells key).toArray 23) none)
  have TK0 := Lib.hid True.intro
  obtain ⟨G, hG⟩ : ∃ G, greatO6 l = G := ⟨_, rfl⟩
  have HG := Lib.hid hG
  clear hA hl hr hk hn hnr hG
  cases G with
  | true =>
    go_enter Tryd.func6, Tryd.ntmps6
    go_wp2_with (first
      | (go_at_call 9; refine (sspeaks_any _).mono ?_; rintro e w1 ⟨rfl, g⟩; have G1 := Lib.hid (grown_trans' G0.out g); clear g)
      | (go_at_call 10; refine (sgreat_any _ w A l n cap w.heap.size HN.out (HA.out.made G1.out (Nat.le_refl _)) G1.out.size HL.out).mono ?_; rw [HG.out]; rintro e w2 ⟨rfl, g⟩; have G2 := Lib.hid (grown_trans' G1.out g); clear g))
    go_ret
    exact ⟨rfl, below_of_none G2.out⟩
  | false =>
    by_cases hb : 1000 < nr
    · have hbi : (1000 : Int) < (nr : Int) := by omega
      clear hb
      go_enter Tryd.func6, Tryd.ntmps6
      go_wp2_with (first
        | (go_at_call 9; refine (sspeaks_any _).mono ?_; rintro e w1 ⟨rfl, g⟩; have G1 := Lib.hid (grown_trans' G0.out g); clear g)
        | (go_at_call 10; refine (sgreat_any _ w A l n cap w.heap.size HN.out (HA.out.made G1.out (Nat.le_refl _)) G1.out.size HL.out).mono ?_; rw [HG.out]; rintro e w2 ⟨rfl, g⟩; have G2 := Lib.hid (grown_trans' G1.out g); clear g))
      go_ret
      exact ⟨rfl, below_of_none G2.out⟩
    have hbi : ¬ ((1000 : Int) < (nr : Int)) := by omega
    have HNB := Lib.hid (show nr ≤ 1000 by omega)
    have HN12 := Lib.hid (show n ≤ 12 by rw [← HN.out]; exact great_len6 HG.out)
    have hni : (n : Int) ≤ 12 := by have := HN12.out; omega
    clear hb
    go_enter Tryd.func6, Tryd.ntmps6
    go_wp2_with (first
      | (go_at_call 9; refine (sspeaks_any _).mono ?_; rintro e w1 ⟨rfl, g⟩; have G1 := Lib.hid (grown_trans' G0.out g); have K1 := Lib.hid (K0.out.kept g); clear g)
      | (go_at_call 10; refine (sgreat_any _ w A l n cap w.heap.size HN.out (HA.out.made G1.out (Nat.le_refl _)) G1.out.size HL.out).mono ?_; rw [HG.out]; rintro e w2 ⟨rfl, g⟩; have G2 := Lib.hid (grown_trans' G1.out g); have K2 := Lib.hid (K1.out.kept g); clear g)
      | (have hx := TK0; clear hx; refine wpList_buildV rfl rfl (by first | rfl | (go_simp; rfl)) (run_buildZ _) ?_; clear TK0)
      | (go_at_call 11; refine (snew_any (zeros 16) _).mono ?_; rintro e w3 ⟨rfl, s3, g⟩; have S3 := Lib.hid s3; have G3 := Lib.hid (grown_trans' G2.out g); have K3 := Lib.hid (K2.out.kept g); clear g s3))
    obtain ⟨s, hs⟩ : ∃ s, w2.heap.size + 1 = s := ⟨_, rfl⟩
    rw [hs] at S3 ⊢
    have HSW := Lib.hid (show w.heap.size ≤ s by have := G2.out.size; omega)
    clear hs
    go_loopw [8, 30] (fun mv v wr => ∃ k : Nat, v = .int .i64 k ∧ k ≤ n ∧ ∃ (T : List Te) (r : Option Nat) (b : Bool), mv = .bool b ∧ madeS T key raw = b ∧ T.length ≤ k ∧ (∀ t ∈ T, t.2.2.length ≤ 100000) ∧ SS wr s s r T 0 ∧ CB wr w.heap.size 23 (bcells key) ∧ w.grownBy wr none) (fun _ v _ => n - (intOf v).toNat)
    case atStart => exact ⟨0, rfl, Nat.zero_le _, [], none, false, rfl, rfl, Nat.le_refl _, (fun t ht => by cases ht), S3.out, K3.out, G3.out⟩
    case round =>
      obtain ⟨k, rfl, hk, T, r, b, rfl, hmk, htl, hpl, hss, hko, hg⟩ := hrel
      have HMK := Lib.hid hmk
      have HTL := Lib.hid htl
      have HPL := Lib.hid hpl
      have SR := Lib.hid hss
      have KR := Lib.hid hko
      have GR := Lib.hid hg
      have HKN := Lib.hid (show k ≤ 12 by have := HN12.out; omega)
      clear hmk htl hpl hss hko hg
      by_cases hlt : k < n
      · have hlti : (k : Int) < (n : Int) := by omega
        obtain ⟨o, ho⟩ : ∃ o, o = l[k]'(by rw [HN.out]; exact hlt) := ⟨_, rfl⟩
        obtain ⟨ab, ao, hAe, hab, hcells⟩ := HA.out.elem (k := k) (by rw [List.length_map, HN.out]; exact hlt)
        have HOW := Lib.hid (show op6W w o by rw [ho]; exact HL.out _ (List.getElem_mem _))
        have hce : (l.map op6C)[k]'(by rw [List.length_map, HN.out]; exact hlt) = op6C o := by rw [List.getElem_map, ho]
        rw [hce] at hcells
        have HCELL := Lib.hid (show ∀ j v, (op6C o)[j]? = some v → wr.cell? ⟨ab, ao + 20 * k + j, none⟩ = some v from fun j v hj => ((below_of_none GR.out).cell (p := ⟨ab, _, none⟩) hab).trans (hcells j v hj))
        have HD21 := Lib.hid (show o.da.length ≤ 2100 by rw [ho]; exact great_ok6 HG.out (List.getElem_mem _))
        subst hAe
        obtain ⟨nd, hnd⟩ : ∃ n, o.da.length = n := ⟨_, rfl⟩
        have HNE := Lib.hid (show (o.ky, o.u, o.da).2.2.length = nd from hnd)
        have HDA := Lib.hid (show (op6C o)[19]? = some (.slice o.A nd o.c) by rw [← hnd]; exact op6C_da HOW.out)
        have HRA := Lib.hid (show ∀ a, o.A = some a → (o.ky, o.u, o.da).2.2 = [] ∨ (a.block ≠ s ∧ r ≠ some a.block) from fun a ha => (HOW.out.r.lt_of a ha).imp id (fun q => ⟨by have := HSW.out; omega, fun e => by have := (SR.out.rlt _ e).1; have := HSW.out; omega⟩))
        have TK1 := Lib.hid True.intro
        clear hce hcells ho hab
        by_cases hlong : 2000 < nd
        · have HND := Lib.hid hlong
          clear hlong hnd
          go_wp2_with (first
            | (have hx := TK1; clear hx; refine wpList_loadX (p := op6C o) aggO6 rfl (.tmp 32) rfl (b := ab) (off := ao + 20 * k) HCELL.out (op6C_len HOW.out) (by first | rfl | go_simp) ?_; clear TK1; have TK2 := Lib.hid True.intro)
            | (have hx := TK2; clear hx; refine wpList_allocC zeroO6_run rfl rfl ?_; clear TK2; have TK3 := Lib.hid True.intro)
            | (have hx := TK3; clear hx; refine wpList_storeC (off := 0) (p := op6C o) aggO6.hi rfl (.tmp 10) (.tmp 33) rfl (.agg (op6C o).toArray) rfl (op6C_one o) (CB.new wr 34 zeroO6) (op6C_len HOW.out) (by rw [zeroO6_length]; omega) (by first | rfl | go_simp) (by first | rfl | go_simp) ?_; intro w3 h3 g3; rw [over_all _ _ (Nat.le_of_eq (by rw [zeroO6_length, op6C_len HOW.out]))] at h3; have gs := none_new (grown_alloc wr (.cells zeroO6.toArray 34) none) g3 (Nat.le_refl _); have q2 := h3.at_ (op6C_u o); have q3 := h3.at_ HDA.out; have C3 := Lib.hid h3; have S3 := Lib.hid (SR.out.none gs); have K3 := Lib.hid (KR.out.kept gs); have G3 := Lib.hid (grown_trans' GR.out gs); clear h3 g3 gs TK3; have TK4 := Lib.hid True.intro)
            | (have hx := TK4; clear hx; refine wpList_loadC (off := 3) (p := bcells o.ky) aggKy rfl (.tmp 36) rfl C3.out (op6C_key HOW.out) (by rw [op6C_len HOW.out]; omega) (by first | rfl | go_simp) ?_; clear TK4; have TK5 := Lib.hid True.intro)
            | (go_at_call 15; have hx := TK5; clear hx; refine (seal_long _ s o.ky o.u o.A nd o.c (by have := HND.out; omega)).mono ?_; rintro e w4 ⟨rfl, g4⟩; have S4 := Lib.hid (S3.out.none g4); have K4 := Lib.hid (K3.out.kept g4); have G4 := Lib.hid (grown_trans' G3.out g4); clear g4 q2 q3 TK5))
          go_roundw
          case rel => exact ⟨k + 1, by go_num, by omega, T, r, b, rfl, HMK.out, Nat.le_succ_of_le HTL.out, HPL.out, S4.out, K4.out, G4.out⟩
          case measure => simp [intOf]; omega
        · have HND := Lib.hid (show nd ≤ 2000 by omega)
          have HPN := Lib.hid (show ∀ t ∈ T ++ [(o.ky, o.u, o.da)], t.2.2.length ≤ 100000 from fun t ht => by
            rcases List.mem_append.1 ht with h | h
            · exact HPL.out t h
            · rw [List.mem_singleton.1 h]
              show o.da.length ≤ 100000
              omega)
          have HTN := Lib.hid (show (T ++ [(o.ky, o.u, o.da)]).length ≤ k + 1 by rw [List.length_append]; exact Nat.succ_le_succ HTL.out)
          clear hlong hnd
          by_cases hky : o.ky = key
          · have HCM := Lib.hid (show ∀ w, (binOp .eql 23 (.agg (bcells o.ky).toArray) (.agg (bcells key).toArray)).run Tryd.prog w = .ok (.bool true) w from fun w => by rw [run_eqlK HOW.out.lk HK.out, hky]; simp)
            by_cases hu : o.u = 1
            · by_cases hbx : boxN T.length = raw
              · have HM2 := Lib.hid (show madeS (T ++ [(o.ky, o.u, o.da)]) key raw = true by rw [madeS_next]; simp [hky, hu, hbx])
                have hu1 : (o.u == 1) = true := by simpa using hu
                have hst : (boxN T.length == raw) = true := by simpa using hbx
                clear hky hu hbx
                go_wp2_with (first
                  | (have hx := TK1; clear hx; refine wpList_loadX (p := op6C o) aggO6 rfl (.tmp 32) rfl (b := ab) (off := ao + 20 * k) HCELL.out (op6C_len HOW.out) (by first | rfl | go_simp) ?_; clear TK1; have TK2 := Lib.hid True.intro)
                  | (have hx := TK2; clear hx; refine wpList_allocC zeroO6_run rfl rfl ?_; clear TK2; have TK3 := Lib.hid True.intro)
                  | (have hx := TK3; clear hx; refine wpList_storeC (off := 0) (p := op6C o) aggO6.hi rfl (.tmp 10) (.tmp 33) rfl (.agg (op6C o).toArray) rfl (op6C_one o) (CB.new wr 34 zeroO6) (op6C_len HOW.out) (by rw [zeroO6_length]; omega) (by first | rfl | go_simp) (by first | rfl | go_simp) ?_; intro w3 h3 g3; rw [over_all _ _ (Nat.le_of_eq (by rw [zeroO6_length, op6C_len HOW.out]))] at h3; have gs := none_new (grown_alloc wr (.cells zeroO6.toArray 34) none) g3 (Nat.le_refl _); have q2 := h3.at_ (op6C_u o); have q3 := h3.at_ HDA.out; have C3 := Lib.hid h3; have S3 := Lib.hid (SR.out.none gs); have K3 := Lib.hid (KR.out.kept gs); have G3 := Lib.hid (grown_trans' GR.out gs); clear h3 g3 gs TK3; have TK4 := Lib.hid True.intro)
                  | (have hx := TK4; clear hx; refine wpList_loadC (off := 3) (p := bcells o.ky) aggKy rfl (.tmp 36) rfl C3.out (op6C_key HOW.out) (by rw [op6C_len HOW.out]; omega) (by first | rfl | go_simp) ?_; clear TK4; have TK5 := Lib.hid True.intro)
                  | (go_at_call 15; have hx := TK5; clear hx; refine (seal_any _ _ _ _ _ _ S3.out (o.ky, o.u, o.da) o.A nd o.c HOW.out.lk HNE.out (HOW.out.r.keptS G3.out) (fun a ha => HRA.out a ha) HND.out (by have := HTL.out; have := HKN.out; omega)).mono ?_; rintro e w4 ⟨v4, r4, rfl, o4, s4, wr4, hr4⟩; obtain ⟨A4, c4, rfl, rb4, -⟩ := o4.shape; have HS4 := Lib.hid (S3.out.off_cells C3.out (by decide) (by decide)); have HK4 := Lib.hid (S3.out.off_cells K3.out (by decide) (by decide)); have C4 := Lib.hid (C3.out.wrs wr4 HS4.out.1 HS4.out.2); have K4 := Lib.hid (K3.out.wrs wr4 HK4.out.1 HK4.out.2); have q2 := C4.out.at_ (op6C_u o); have S4 := Lib.hid s4; have HR4 := Lib.hid hr4; have G4 := Lib.hid (wrs_new2 G3.out wr4 HSW.out (fun z hz => by have := (S3.out.rlt z hz).1; have := HSW.out; omega)); have HL9 := Lib.hid (show (boxN T.length).length = 9 from boxN_len _); have s1 := run_strB byteT Tryd.underlying9 rb4; have s2 := run_strB byteT Tryd.underlying9 (RW.out.keptS G4.out); rw [HNR.out] at s2; clear o4 s4 wr4 hr4 q3 rb4 TK5; have TK6 := Lib.hid True.intro)
                  | (have hx := TK6; clear hx; refine wpList_loadCg (off := 3) (p := bcells o.ky) aggKy (by first | rfl | go_simp) (.tmp 48) rfl C4.out (op6C_key HOW.out) (by rw [op6C_len HOW.out]; omega) (by first | rfl | go_simp) ?_; clear TK6; have TK7 := Lib.hid True.intro)
                  | (have hx := TK7; clear hx; refine wpList_loadCg (off := 0) (p := bcells key) aggKy (by first | rfl | go_simp) (.tmp 5) rfl K4.out (take_all (by rw [bcells_length]; exact HK.out)) (by rw [bcells_length, HK.out]; omega) (by first | rfl | go_simp) ?_; clear TK7; have TK8 := Lib.hid True.intro)
                  | (have hx := TK8; clear hx; refine wpList_cmpVg (.inl rfl) (by kernel_rfl) (by first | rfl | go_simp) (.tmp 49) (.tmp 50) rfl (by first | rfl | go_simp) (by first | rfl | go_simp) HCM.out ?_; clear TK8))
                go_roundw
                case rel => exact ⟨k + 1, by go_num, by omega, _, _, true, rfl, HM2.out, HTN.out, HPN.out, S4.out, K4.out, G4.out⟩
                case measure => simp [intOf]; omega
              · have HM2 := Lib.hid (show madeS (T ++ [(o.ky, o.u, o.da)]) key raw = b by rw [madeS_next, HMK.out]; simp [hbx])
                have hu1 : (o.u == 1) = true := by simpa using hu
                have hst : (boxN T.length == raw) = false := by simpa using hbx
                clear hky hu hbx
                go_wp2_with (first
                  | (have hx := TK1; clear hx; refine wpList_loadX (p := op6C o) aggO6 rfl (.tmp 32) rfl (b := ab) (off := ao + 20 * k) HCELL.out (op6C_len HOW.out) (by first | rfl | go_simp) ?_; clear TK1; have TK2 := Lib.hid True.intro)
                  | (have hx := TK2; clear hx; refine wpList_allocC zeroO6_run rfl rfl ?_; clear TK2; have TK3 := Lib.hid True.intro)
                  | (have hx := TK3; clear hx; refine wpList_storeC (off := 0) (p := op6C o) aggO6.hi rfl (.tmp 10) (.tmp 33) rfl (.agg (op6C o).toArray) rfl (op6C_one o) (CB.new wr 34 zeroO6) (op6C_len HOW.out) (by rw [zeroO6_length]; omega) (by first | rfl | go_simp) (by first | rfl | go_simp) ?_; intro w3 h3 g3; rw [over_all _ _ (Nat.le_of_eq (by rw [zeroO6_length, op6C_len HOW.out]))] at h3; have gs := none_new (grown_alloc wr (.cells zeroO6.toArray 34) none) g3 (Nat.le_refl _); have q2 := h3.at_ (op6C_u o); have q3 := h3.at_ HDA.out; have C3 := Lib.hid h3; have S3 := Lib.hid (SR.out.none gs); have K3 := Lib.hid (KR.out.kept gs); have G3 := Lib.hid (grown_trans' GR.out gs); clear h3 g3 gs TK3; have TK4 := Lib.hid True.intro)
                  | (have hx := TK4; clear hx; refine wpList_loadC (off := 3) (p := bcells o.ky) aggKy rfl (.tmp 36) rfl C3.out (op6C_key HOW.out) (by rw [op6C_len HOW.out]; omega) (by first | rfl | go_simp) ?_; clear TK4; have TK5 := Lib.hid True.intro)
                  | (go_at_call 15; have hx := TK5; clear hx; refine (seal_any _ _ _ _ _ _ S3.out (o.ky, o.u, o.da) o.A nd o.c HOW.out.lk HNE.out (HOW.out.r.keptS G3.out) (fun a ha => HRA.out a ha) HND.out (by have := HTL.out; have := HKN.out; omega)).mono ?_; rintro e w4 ⟨v4, r4, rfl, o4, s4, wr4, hr4⟩; obtain ⟨A4, c4, rfl, rb4, -⟩ := o4.shape; have HS4 := Lib.hid (S3.out.off_cells C3.out (by decide) (by decide)); have HK4 := Lib.hid (S3.out.off_cells K3.out (by decide) (by decide)); have C4 := Lib.hid (C3.out.wrs wr4 HS4.out.1 HS4.out.2); have K4 := Lib.hid (K3.out.wrs wr4 HK4.out.1 HK4.out.2); have q2 := C4.out.at_ (op6C_u o); have S4 := Lib.hid s4; have HR4 := Lib.hid hr4; have G4 := Lib.hid (wrs_new2 G3.out wr4 HSW.out (fun z hz => by have := (S3.out.rlt z hz).1; have := HSW.out; omega)); have HL9 := Lib.hid (show (boxN T.length).length = 9 from boxN_len _); have s1 := run_strB byteT Tryd.underlying9 rb4; have s2 := run_strB byteT Tryd.underlying9 (RW.out.keptS G4.out); rw [HNR.out] at s2; clear o4 s4 wr4 hr4 q3 rb4 TK5; have TK6 := Lib.hid True.intro)
                  | (have hx := TK6; clear hx; refine wpList_loadCg (off := 3) (p := bcells o.ky) aggKy (by first | rfl | go_simp) (.tmp 48) rfl C4.out (op6C_key HOW.out) (by rw [op6C_len HOW.out]; omega) (by first | rfl | go_simp) ?_; clear TK6; have TK7 := Lib.hid True.intro)
                  | (have hx := TK7; clear hx; refine wpList_loadCg (off := 0) (p := bcells key) aggKy (by first | rfl | go_simp) (.tmp 5) rfl K4.out (take_all (by rw [bcells_length]; exact HK.out)) (by rw [bcells_length, HK.out]; omega) (by first | rfl | go_simp) ?_; clear TK7; have TK8 := Lib.hid True.intro)
                  | (have hx := TK8; clear hx; refine wpList_cmpVg (.inl rfl) (by kernel_rfl) (by first | rfl | go_simp) (.tmp 49) (.tmp 50) rfl (by first | rfl | go_simp) (by first | rfl | go_simp) HCM.out ?_; clear TK8))
                go_roundw
                case rel => exact ⟨k + 1, by go_num, by omega, _, _, b, rfl, HM2.out, HTN.out, HPN.out, S4.out, K4.out, G4.out⟩
                case measure => simp [intOf]; omega
            · have HM2 := Lib.hid (show madeS (T ++ [(o.ky, o.u, o.da)]) key raw = b by rw [madeS_next, HMK.out]; simp [hu])
              have hu1 : (o.u == 1) = false := by simpa using hu
              clear hky hu
              go_wp2_with (first
                | (have hx := TK1; clear hx; refine wpList_loadX (p := op6C o) aggO6 rfl (.tmp 32) rfl (b := ab) (off := ao + 20 * k) HCELL.out (op6C_len HOW.out) (by first | rfl | go_simp) ?_; clear TK1; have TK2 := Lib.hid True.intro)
                | (have hx := TK2; clear hx; refine wpList_allocC zeroO6_run rfl rfl ?_; clear TK2; have TK3 := Lib.hid True.intro)
                | (have hx := TK3; clear hx; refine wpList_storeC (off := 0) (p := op6C o) aggO6.hi rfl (.tmp 10) (.tmp 33) rfl (.agg (op6C o).toArray) rfl (op6C_one o) (CB.new wr 34 zeroO6) (op6C_len HOW.out) (by rw [zeroO6_length]; omega) (by first | rfl | go_simp) (by first | rfl | go_simp) ?_; intro w3 h3 g3; rw [over_all _ _ (Nat.le_of_eq (by rw [zeroO6_length, op6C_len HOW.out]))] at h3; have gs := none_new (grown_alloc wr (.cells zeroO6.toArray 34) none) g3 (Nat.le_refl _); have q2 := h3.at_ (op6C_u o); have q3 := h3.at_ HDA.out; have C3 := Lib.hid h3; have S3 := Lib.hid (SR.out.none gs); have K3 := Lib.hid (KR.out.kept gs); have G3 := Lib.hid (grown_trans' GR.out gs); clear h3 g3 gs TK3; have TK4 := Lib.hid True.intro)
                | (have hx := TK4; clear hx; refine wpList_loadC (off := 3) (p := bcells o.ky) aggKy rfl (.tmp 36) rfl C3.out (op6C_key HOW.out) (by rw [op6C_len HOW.out]; omega) (by first | rfl | go_simp) ?_; clear TK4; have TK5 := Lib.hid True.intro)
                | (go_at_call 15; have hx := TK5; clear hx; refine (seal_any _ _ _ _ _ _ S3.out (o.ky, o.u, o.da) o.A nd o.c HOW.out.lk HNE.out (HOW.out.r.keptS G3.out) (fun a ha => HRA.out a ha) HND.out (by have := HTL.out; have := HKN.out; omega)).mono ?_; rintro e w4 ⟨v4, r4, rfl, o4, s4, wr4, hr4⟩; obtain ⟨A4, c4, rfl, rb4, -⟩ := o4.shape; have HS4 := Lib.hid (S3.out.off_cells C3.out (by decide) (by decide)); have HK4 := Lib.hid (S3.out.off_cells K3.out (by decide) (by decide)); have C4 := Lib.hid (C3.out.wrs wr4 HS4.out.1 HS4.out.2); have K4 := Lib.hid (K3.out.wrs wr4 HK4.out.1 HK4.out.2); have q2 := C4.out.at_ (op6C_u o); have S4 := Lib.hid s4; have HR4 := Lib.hid hr4; have G4 := Lib.hid (wrs_new2 G3.out wr4 HSW.out (fun z hz => by have := (S3.out.rlt z hz).1; have := HSW.out; omega)); have HL9 := Lib.hid (show (boxN T.length).length = 9 from boxN_len _); have s1 := run_strB byteT Tryd.underlying9 rb4; have s2 := run_strB byteT Tryd.underlying9 (RW.out.keptS G4.out); rw [HNR.out] at s2; clear o4 s4 wr4 hr4 q3 rb4 TK5; have TK6 := Lib.hid True.intro)
                | (have hx := TK6; clear hx; refine wpList_loadCg (off := 3) (p := bcells o.ky) aggKy (by first | rfl | go_simp) (.tmp 48) rfl C4.out (op6C_key HOW.out) (by rw [op6C_len HOW.out]; omega) (by first | rfl | go_simp) ?_; clear TK6; have TK7 := Lib.hid True.intro)
                | (have hx := TK7; clear hx; refine wpList_loadCg (off := 0) (p := bcells key) aggKy (by first | rfl | go_simp) (.tmp 5) rfl K4.out (take_all (by rw [bcells_length]; exact HK.out)) (by rw [bcells_length, HK.out]; omega) (by first | rfl | go_simp) ?_; clear TK7; have TK8 := Lib.hid True.intro)
                | (have hx := TK8; clear hx; refine wpList_cmpVg (.inl rfl) (by kernel_rfl) (by first | rfl | go_simp) (.tmp 49) (.tmp 50) rfl (by first | rfl | go_simp) (by first | rfl | go_simp) HCM.out ?_; clear TK8))
              go_roundw
              case rel => exact ⟨k + 1, by go_num, by omega, _, _, b, rfl, HM2.out, HTN.out, HPN.out, S4.out, K4.out, G4.out⟩
              case measure => simp [intOf]; omega
          · have HCM := Lib.hid (show ∀ w, (binOp .eql 23 (.agg (bcells o.ky).toArray) (.agg (bcells key).toArray)).run Tryd.prog w = .ok (.bool false) w from fun w => by rw [run_eqlK HOW.out.lk HK.out, beq_false_of_ne hky])
            have HM2 := Lib.hid (show madeS (T ++ [(o.ky, o.u, o.da)]) key raw = b by rw [madeS_next, HMK.out]; simp [hky])
            clear hky
            go_wp2_with (first
              | (have hx := TK1; clear hx; refine wpList_loadX (p := op6C o) aggO6 rfl (.tmp 32) rfl (b := ab) (off := ao + 20 * k) HCELL.out (op6C_len HOW.out) (by first | rfl | go_simp) ?_; clear TK1; have TK2 := Lib.hid True.intro)
              | (have hx := TK2; clear hx; refine wpList_allocC zeroO6_run rfl rfl ?_; clear TK2; have TK3 := Lib.hid True.intro)
              | (have hx := TK3; clear hx; refine wpList_storeC (off := 0) (p := op6C o) aggO6.hi rfl (.tmp 10) (.tmp 33) rfl (.agg (op6C o).toArray) rfl (op6C_one o) (CB.new wr 34 zeroO6) (op6C_len HOW.out) (by rw [zeroO6_length]; omega) (by first | rfl | go_simp) (by first | rfl | go_simp) ?_; intro w3 h3 g3; rw [over_all _ _ (Nat.le_of_eq (by rw [zeroO6_length, op6C_len HOW.out]))] at h3; have gs := none_new (grown_alloc wr (.cells zeroO6.toArray 34) none) g3 (Nat.le_refl _); have q2 := h3.at_ (op6C_u o); have q3 := h3.at_ HDA.out; have C3 := Lib.hid h3; have S3 := Lib.hid (SR.out.none gs); have K3 := Lib.hid (KR.out.kept gs); have G3 := Lib.hid (grown_trans' GR.out gs); clear h3 g3 gs TK3; have TK4 := Lib.hid True.intro)
              | (have hx := TK4; clear hx; refine wpList_loadC (off := 3) (p := bcells o.ky) aggKy rfl (.tmp 36) rfl C3.out (op6C_key HOW.out) (by rw [op6C_len HOW.out]; omega) (by first | rfl | go_simp) ?_; clear TK4; have TK5 := Lib.hid True.intro)
              | (go_at_call 15; have hx := TK5; clear hx; refine (seal_any _ _ _ _ _ _ S3.out (o.ky, o.u, o.da) o.A nd o.c HOW.out.lk HNE.out (HOW.out.r.keptS G3.out) (fun a ha => HRA.out a ha) HND.out (by have := HTL.out; have := HKN.out; omega)).mono ?_; rintro e w4 ⟨v4, r4, rfl, o4, s4, wr4, hr4⟩; obtain ⟨A4, c4, rfl, rb4, -⟩ := o4.shape; have HS4 := Lib.hid (S3.out.off_cells C3.out (by decide) (by decide)); have HK4 := Lib.hid (S3.out.off_cells K3.out (by decide) (by decide)); have C4 := Lib.hid (C3.out.wrs wr4 HS4.out.1 HS4.out.2); have K4 := Lib.hid (K3.out.wrs wr4 HK4.out.1 HK4.out.2); have q2 := C4.out.at_ (op6C_u o); have S4 := Lib.hid s4; have HR4 := Lib.hid hr4; have G4 := Lib.hid (wrs_new2 G3.out wr4 HSW.out (fun z hz => by have := (S3.out.rlt z hz).1; have := HSW.out; omega)); have HL9 := Lib.hid (show (boxN T.length).length = 9 from boxN_len _); have s1 := run_strB byteT Tryd.underlying9 rb4; have s2 := run_strB byteT Tryd.underlying9 (RW.out.keptS G4.out); rw [HNR.out] at s2; clear o4 s4 wr4 hr4 q3 rb4 TK5; have TK6 := Lib.hid True.intro)
              | (have hx := TK6; clear hx; refine wpList_loadCg (off := 3) (p := bcells o.ky) aggKy (by first | rfl | go_simp) (.tmp 48) rfl C4.out (op6C_key HOW.out) (by rw [op6C_len HOW.out]; omega) (by first | rfl | go_simp) ?_; clear TK6; have TK7 := Lib.hid True.intro)
              | (have hx := TK7; clear hx; refine wpList_loadCg (off := 0) (p := bcells key) aggKy (by first | rfl | go_simp) (.tmp 5) rfl K4.out (take_all (by rw [bcells_length]; exact HK.out)) (by rw [bcells_length, HK.out]; omega) (by first | rfl | go_simp) ?_; clear TK7; have TK8 := Lib.hid True.intro)
              | (have hx := TK8; clear hx; refine wpList_cmpVg (.inl rfl) (by kernel_rfl) (by first | rfl | go_simp) (.tmp 49) (.tmp 50) rfl (by first | rfl | go_simp) (by first | rfl | go_simp) HCM.out ?_; clear TK8))
            go_roundw
            case rel => exact ⟨k + 1, by go_num, by omega, _, _, b, rfl, HM2.out, HTN.out, HPN.out, S4.out, K4.out, G4.out⟩
            case measure => simp [intOf]; omega
      · have hlti : ¬ (k : Int) < (n : Int) := by omega
        have HOM := Lib.hid (show (openS T key 1 raw).isSome = b by rw [open_made T key raw (by have := HTL.out; have := HKN.out; omega), HMK.out])
        obtain ⟨oo, hoo⟩ : ∃ o, openS T key 1 raw = o := ⟨_, rfl⟩
        have HOO := Lib.hid hoo
        rw [hoo] at HOM
        clear hlt hoo
        cases oo with
        | none =>
          obtain rfl : false = b := HOM.out
          go_wp2_with (first
            | (refine wpList_loadC (off := 0) (p := bcells key) aggKy rfl (.tmp 5) rfl KR.out (take_all (by rw [bcells_length]; exact HK.out)) (by rw [bcells_length, HK.out]; omega) (by first | rfl | go_simp) ?_)
            | (go_at_call 18; refine (open_any _ _ _ _ _ _ SR.out key 1 A1 raw nr cap1 HK.out HNR.out (RW.out.keptS GR.out) (by have := HNB.out; omega) (by have := HTL.out; have := HKN.out; omega) HPL.out).mono ?_; rw [HOO.out]; rintro e w5 ⟨g, rfl⟩; have G5 := Lib.hid (grown_trans' GR.out g); clear g))
          go_ret
          exact ⟨rfl, below_of_none G5.out⟩
        | some p =>
          obtain rfl : true = b := HOM.out
          go_wp2_with (first
            | (refine wpList_loadC (off := 0) (p := bcells key) aggKy rfl (.tmp 5) rfl KR.out (take_all (by rw [bcells_length]; exact HK.out)) (by rw [bcells_length, HK.out]; omega) (by first | rfl | go_simp) ?_)
            | (go_at_call 18; refine (open_any _ _ _ _ _ _ SR.out key 1 A1 raw nr cap1 HK.out HNR.out (RW.out.keptS GR.out) (by have := HNB.out; omega) (by have := HTL.out; have := HKN.out; omega) HPL.out).mono ?_; rw [HOO.out]; rintro e w5 ⟨g, A5, c5, rfl, -⟩; have G5 := Lib.hid (grown_trans' GR.out g); clear g))
          go_ret
          exact ⟨rfl, below_of_none G5.out⟩
end Go.Proofs.YtaanhancjmigdaaDoor
