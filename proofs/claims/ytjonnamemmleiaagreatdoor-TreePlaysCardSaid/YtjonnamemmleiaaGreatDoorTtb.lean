/- List: the names in a directory, or why not. -/
import Derived.Test.YtjonnamemmleiaaGreatDoorTrp
import Derived.Test.YtjonnamemmleiaaGreatDoorTsk
namespace Go.Proofs.YtjonnamemmleiaaGreatDoor
open Go.RowKit Go.Maps Go.WideMaps

/-- What List answers, but for the names. -/
def listR (M : List (List UInt8 × Nd)) (who : ByteArray) (p : List UInt8) : Int :=
  match (findR M who p).1 with
  | none => (findR M who p).2
  | some n => if n.dir = false then 112 else if mayOk who 4 n.owner n.mode = false then 114 else 0
set_option maxHeartbeats 2000000 in
theorem list_any (w : World) (tb mb : Nat) (M : List (List UInt8 × Nd)) (hT : TS w tb mb M) (hlen : M.length ≤ 1000000) (hsl : Slashed M) (who s : ByteArray) (p : List UInt8) (hp : s.data.toList = p) (hs : p.length ≤ 100000) :
    Calls Tryz.prog 38 #[.pointer (some ⟨tb, 0, none⟩), .string who, .string s] w fun e w' => Below w.heap.size w w' ∧
      ((listR M who p ≠ 0 ∧ e = .returned (.tuple #[.slice none 0 0, .int .i64 (listR M who p)])) ∨ (listR M who p = 0 ∧ ∃ v ss, e = .returned (.tuple #[v, .int .i64 0]) ∧ Named M p ss ∧ w'.ownsRow w.heap.size 9 1 v ss.length (ss.map Go.Proofs.encStr))) := by
  have CA := find_any w tb mb M hT.tr who s p hp hs
  rcases findR_cases M who p with ⟨c, h0, hf⟩ | ⟨n, hin, hf⟩
  · have hR : listR M who p = c := by unfold listR; rw [hf]
    rw [hf] at CA
    have hcq : (c == 0) = false := beq_eq_false_iff_ne.2 h0
    have CC := Lib.hid CA
    have H0 := Lib.hid h0
    rw [hR]
    clear CA hT hp hs hR hf hsl hlen h0
    go_enter Tryz.func38, Tryz.ntmps38
    go_wp2_with (go_at_call 58; refine CC.out.mono ?_; rintro e w1 ⟨rfl, hb1⟩; rw [ptrOf])
    go_ret2
    exact ⟨hb1, .inl ⟨H0.out, rfl⟩⟩
  · rw [hf] at CA
    have hN := hT.tr.nodes _ _ hin
    have hlt := hN.1.lt
    have CC := Lib.hid CA
    have HN := Lib.hid hN
    have HL := Lib.hid hlt
    have hR0 : listR M who p = if n.dir = false then 112 else if mayOk who 4 n.owner n.mode = false then 114 else 0 := by unfold listR; rw [hf]
    cases hd : n.dir with
    | false =>
      rw [if_pos hd] at hR0
      rw [hR0]
      have HD := Lib.hid hd
      clear CA hT hp hs hR0 hf hN hlt hin hd hsl hlen
      go_enter Tryz.func38, Tryz.ntmps38
      go_wp2_with (go_at_call 58; refine CC.out.mono ?_; rintro e w1 ⟨rfl, hb1⟩; rw [ptrOf, vN]; have HN1 := Lib.hid (HN.out.1.below hb1 HL.out); have HB1 := Lib.hid hb1; have k1 := HN1.out.at_ (i := 1) (v := .bool false) (by show some (Value.bool n.dir) = _; rw [HD.out]); clear hb1)
      go_ret2
      exact ⟨HB1.out, .inl ⟨by decide, rfl⟩⟩
    | true =>
      rw [if_neg (by rw [hd]; decide)] at hR0
      have HD := Lib.hid hd
      cases hm : mayOk who 4 n.owner n.mode with
      | false =>
        rw [if_pos hm] at hR0
        rw [hR0]
        have HM := Lib.hid hm
        clear CA hT hp hs hR0 hf hN hlt hin hd hm hsl hlen
        go_enter Tryz.func38, Tryz.ntmps38
        go_wp2_with (first
          | (go_at_call 58; refine CC.out.mono ?_; rintro e w1 ⟨rfl, hb1⟩; rw [ptrOf, vN]; have HN1 := Lib.hid (HN.out.1.below hb1 HL.out); have HB1 := Lib.hid hb1; have k1 := HN1.out.at_ (i := 1) (v := .bool true) (by show some (Value.bool n.dir) = _; rw [HD.out]); clear hb1)
          | (go_at_call 63; refine (may_any _ who 4 n.blk _ n.owner n.dir n.mode n.data HN1.out HN.out.2 (.inr (.inr rfl))).mono ?_; rintro e w2 ⟨rfl, rfl⟩; rw [HM.out]))
        go_ret2
        exact ⟨HB1.out, .inl ⟨by decide, rfl⟩⟩
      | true =>
        rw [if_neg (by rw [hm]; decide)] at hR0
        rw [hR0]
        have HM := Lib.hid hm
        have HT := Lib.hid hT
        have HLE := Lib.hid hlen
        have HSL := Lib.hid hsl
        have HP := Lib.hid hp
        clear CA hT hp hs hR0 hf hN hlt hin hd hm hlen hsl
        go_enter Tryz.func38, Tryz.ntmps38
        go_wp2_with (first
          | (go_at_call 58; refine CC.out.mono ?_; rintro e w1 ⟨rfl, hb1⟩; rw [ptrOf, vN]; have HN1 := Lib.hid (HN.out.1.below hb1 HL.out); have HB1 := Lib.hid hb1; have k1 := HN1.out.at_ (i := 1) (v := .bool true) (by show some (Value.bool n.dir) = _; rw [HD.out]); clear hb1)
          | (go_at_call 63; refine (may_any _ who 4 n.blk _ n.owner n.dir n.mode n.data HN1.out HN.out.2 (.inr (.inr rfl))).mono ?_; rintro e w2 ⟨rfl, rfl⟩; rw [HM.out])
          | (go_at_call 52; refine (names_any _ tb mb M (HT.out.tr.below HB1.out HT.out.tr.lts.1 HT.out.tr.lts.2.1 (fun q m hq => (HT.out.tr.nodes q m hq).1.lt)) HLE.out HSL.out s).mono ?_; rintro e w3 ⟨v3, ss, rfl, hn3, ho3, hb3⟩; have HO3 := Lib.hid ho3; have HB3 := Lib.hid hb3; have HN3 := Lib.hid hn3; clear ho3 hb3 hn3))
        go_ret2
        refine ⟨HB1.out.trans (HB3.out.mono HB1.out.size),   .inr ⟨by first | rfl | trivial, v3, ss, rfl, by rw [← HP.out]; exact HN3.out, ?_⟩⟩
        exact ⟨HO3.out.1, HO3.out.2.imp id fun ⟨g, cap, cur, h1, h2, h3⟩ => ⟨g, cap, cur, h1, Nat.le_trans HB1.out.size h2, h3⟩⟩
end Go.Proofs.YtjonnamemmleiaaGreatDoor
namespace Go.Proofs.YtjonnamemmleiaaGreatDoor
open Go.RowKit Go.Maps Go.WideMaps

theorem results_C2 {w : World} {cs : List Value} {fn : Func} {p q : Tmp} {n g : Nat} {t ty : TypeId} (hr : fn.results = #[.cell p ty, .tmp q]) (tmps : Array Value) (hT : AggT Tryz.prog ty n) (h : CB w g t cs) (hl : cs.length = n) (hp : tmps.getD p undef = .pointer (some ⟨g, 0, none⟩)) :
    (results fn tmps).run Tryz.prog w = .ok (.tuple #[.agg cs.toArray, tmps.getD q undef]) w := by
  have hp' : tmps[p]?.getD undef = .pointer (some ⟨g, 0, none⟩) := by simpa using hp
  have hld := run_loadC (P := Tryz.prog) (p := cs) (off := 0) hT h (by rw [List.drop_zero]; exact List.take_of_length_le (by omega)) (by omega)
  simp [results, hr, hp', asAddr, hld]
set_option maxHeartbeats 2000000 in
theorem stat_any (w : World) (tb mb : Nat) (M : List (List UInt8 × Nd)) (hT : TS w tb mb M) (hsh : Short M) (who s : ByteArray) (p : List UInt8) (hp : s.data.toList = p) (hs : p.length ≤ 100000) :
    Calls Tryz.prog 37 #[.pointer (some ⟨tb, 0, none⟩), .string who, .string s] w fun e w' => Below w.heap.size w w' ∧ ((∃ c, c ≠ 0 ∧ findR M who p = (none, c) ∧ e = .returned (.tuple #[.agg zeroNd.toArray, .int .i64 c])) ∨
      (∃ n A c l, (p, n) ∈ M ∧ findR M who p = (some n, 0) ∧ OwnB w 0 5 n.data l ∧ e = .returned (.tuple #[.agg (nodeC ⟨p.toArray⟩ n.dir n.owner n.mode (.slice A l.length c)).toArray, .int .i64 0]) ∧ OwnB w' w.heap.size 5 (.slice A l.length c) l)) := by
  obtain ⟨wa, hwa⟩ : ∃ x, x = w.alloc (.cells zeroNd.toArray 63) := ⟨_, rfl⟩
  have hba : Below w.heap.size w wa := by rw [hwa]; exact (Below.refl _ w).alloc (Nat.le_refl _) _
  have hsz : wa.heap.size = w.heap.size + 1 := by rw [hwa, World.size_alloc]
  have hca : CB wa w.heap.size 63 zeroNd := by rw [hwa]; exact CB.new _ _ _
  have CA := find_any wa tb mb M (hT.tr.below hba hT.tr.lts.1 hT.tr.lts.2.1 hT.tr.lts.2.2) who s p hp hs
  have HBA := Lib.hid hba
  have HSZ := Lib.hid hsz
  have HCA := Lib.hid hca
  have HWA := Lib.hid hwa
  rcases findR_cases M who p with ⟨c, h0, hf⟩ | ⟨n, hin, hf⟩
  · rw [hf] at CA
    have hcq : (c == 0) = false := beq_eq_false_iff_ne.2 h0
    have CC := Lib.hid CA
    have H0 := Lib.hid h0
    have HF := Lib.hid hf
    clear CA hT hp hs hf hsh h0 hba hsz hca hwa
    go_enter Tryz.func37, Tryz.ntmps37
    go_wp2_with (first
      | (go_at_call 58
         rw [show w.alloc (.cells #[.string ⟨#[]⟩, .bool false, .string ⟨#[]⟩, .int .i64 0, .slice none 0 0] 63) = wa from HWA.out.symm]
         refine CC.out.mono ?_
         rintro e w1 ⟨rfl, hb1⟩
         rw [ptrOf]
         have HB1 := Lib.hid (HBA.out.trans (hb1.mono (by have := HSZ.out; omega)))
         have C1 := Lib.hid (HCA.out.below hb1 (by have := HSZ.out; omega))
         clear hb1)
      | (refine wpList_storeC (off := 0) (p := zeroNd) aggNd.hi rfl (.tmp 6) (.tmp 19) rfl (.agg zeroNd.toArray) rfl (nd_one _ _ _ _ _ _ _) C1.out rfl (Nat.le_refl _) (by first | rfl | go_simp) (by first | rfl | go_simp) ?_
         intro w4 h4 g4
         have C4 := Lib.hid (show CB w4 w.heap.size 63 zeroNd from h4)
         have W4 := Lib.hid (none_rowB (none_of_below HB1.out (Nat.le_refl _)) g4 (fun g hg => by injection hg with hg; omega))
         clear h4 g4))
    refine bodyPost_ret (results_C2 rfl _ aggNd C4.out rfl (by first | rfl | go_simp)) rfl ?_
    exact ⟨below_of_none W4.out, .inl ⟨c, H0.out, HF.out, rfl⟩⟩
  · rw [hf] at CA
    have hN := hT.tr.nodes _ _ hin
    obtain ⟨l, hol, hll⟩ := hT.row _ _ hin
    obtain ⟨A, cap, hv, hrb, -⟩ := hol.shape
    rw [hv] at hN
    have hpz : (⟨p.toArray⟩ : ByteArray).size ≤ 1000000 := by show p.toArray.size ≤ 1000000; rw [List.size_toArray]; omega
    have CC := Lib.hid CA
    have HN := Lib.hid hN
    have HL := Lib.hid hN.1.lt
    have HIN := Lib.hid hin
    have HRB := Lib.hid hrb
    have HOL := Lib.hid hol
    have HLL := Lib.hid hll
    have HOZ := Lib.hid (hsh _ _ hin).2
    have HPZ := Lib.hid hpz
    have HF := Lib.hid hf
    clear CA hT hp hs hf hN hin hv hrb hol hll hsh hpz hba hsz hca hwa
    go_enter Tryz.func37, Tryz.ntmps37
    go_wp2_with (first
      | (go_at_call 58
         rw [show w.alloc (.cells #[.string ⟨#[]⟩, .bool false, .string ⟨#[]⟩, .int .i64 0, .slice none 0 0] 63) = wa from HWA.out.symm]
         refine CC.out.mono ?_
         rintro e w1 ⟨rfl, hb1⟩
         rw [ptrOf, vN]
         have HB1 := Lib.hid (HBA.out.trans (hb1.mono (by have := HSZ.out; omega)))
         have C1 := Lib.hid (HCA.out.below hb1 (by have := HSZ.out; omega))
         have HN1 := Lib.hid (HN.out.1.below HB1.out HL.out)
         have S1 := Lib.hid (show w.heap.size < w1.heap.size by have := C1.out.lt; omega)
         have k0 := HN1.out.at_ (i := 0) (v := .string ⟨p.toArray⟩) rfl
         clear hb1)
      | (refine wpList_loadC (off := 0) (p := nodeC ⟨p.toArray⟩ n.dir n.owner n.mode (.slice A l.length cap)) aggNd rfl (.tmp 22) rfl HN1.out rfl (Nat.le_refl _) (by first | rfl | go_simp) ?_)
      | (go_at_call 74
         refine (apart_any _ ⟨p.toArray⟩ n.owner n.dir n.mode A l cap l.length rfl ((HRB.out.below HB1.out).more HB1.out.size) HLL.out HPZ.out HOZ.out).mono ?_
         rintro r w3 ⟨A3, c3, rfl, o3, b3⟩
         have O3 := Lib.hid o3
         have HB3 := Lib.hid (HB1.out.trans (b3.mono HB1.out.size))
         have C3 := Lib.hid (C1.out.below b3 C1.out.lt)
         clear o3 b3)
      | (refine wpList_storeC (off := 0) (p := nodeC ⟨p.toArray⟩ n.dir n.owner n.mode (.slice A3 l.length c3)) aggNd.hi rfl (.tmp 6) (.tmp 24) rfl (.agg (nodeC ⟨p.toArray⟩ n.dir n.owner n.mode (.slice A3 l.length c3)).toArray) rfl (nd_one _ _ _ _ _ _ _) C3.out rfl (Nat.le_refl _) (by first | rfl | go_simp) (by first | rfl | go_simp) ?_
         intro w4 h4 g4
         have C4 := Lib.hid (show CB w4 w.heap.size 63 (nodeC ⟨p.toArray⟩ n.dir n.owner n.mode (.slice A3 l.length c3)) from h4)
         have W4 := Lib.hid (none_rowB (none_of_below HB3.out (Nat.le_refl _)) g4 (fun g hg => by injection hg with hg; omega))
         have O4 := Lib.hid (OwnB.base_ (World.ownsRow.kept O3.out g4 (.inr (fun e => by have := (O3.out.lt _ e).1; have := S1.out; omega))) HB1.out.size)
         clear h4 g4))
    refine bodyPost_ret (results_C2 rfl _ aggNd C4.out rfl (by first | rfl | go_simp)) rfl ?_
    exact ⟨below_of_none W4.out, .inr ⟨n, A3, c3, l, HIN.out, HF.out, HOL.out, rfl, O4.out⟩⟩
end Go.Proofs.YtjonnamemmleiaaGreatDoor
