/- A Sealer by sums: New, Seal. -/
import Derived.Test.YtaanhancjmigdaaDoorSel
namespace Go.Proofs.YtaanhancjmigdaaDoor
open Go.RowKit Go.Maps

def ssC (key : List UInt8) (d n : Nat) : List Value := .bool false :: (bcells key ++ [.int .i64 d, .int .u64 n, .slice none 0 0])
section
variable {key : List UInt8} (hk : key.length = 16) (d n : Nat)
include hk
theorem ssC_len : (ssC key d n).length = 20 := by obtain ⟨a0, a1, a2, a3, a4, a5, a6, a7, a8, a9, a10, a11, a12, a13, a14, a15, rfl⟩ := sixteen_ hk; rfl
theorem ssC_dr : (ssC key d n)[17]? = some (.int .i64 d) := by obtain ⟨a0, a1, a2, a3, a4, a5, a6, a7, a8, a9, a10, a11, a12, a13, a14, a15, rfl⟩ := sixteen_ hk; rfl
theorem ssC_se : (ssC key d n)[18]? = some (.int .u64 n) := by obtain ⟨a0, a1, a2, a3, a4, a5, a6, a7, a8, a9, a10, a11, a12, a13, a14, a15, rfl⟩ := sixteen_ hk; rfl
theorem ssC_te : (ssC key d n)[19]? = some (.slice none 0 0) := by obtain ⟨a0, a1, a2, a3, a4, a5, a6, a7, a8, a9, a10, a11, a12, a13, a14, a15, rfl⟩ := sixteen_ hk; rfl
theorem ssC_more : (ssC key d n).set 18 (.int .u64 ((n : Int) + 1)) = ssC key d (n + 1) := by obtain ⟨a0, a1, a2, a3, a4, a5, a6, a7, a8, a9, a10, a11, a12, a13, a14, a15, rfl⟩ := sixteen_ hk; rfl
theorem run_buildSS (w : World) : (Instr.build 63 #[(1, .agg (bcells key).toArray)]).run Tryd.prog w = .ok (.agg (ssC key 0 0).toArray) w := by
  obtain ⟨a0, a1, a2, a3, a4, a5, a6, a7, a8, a9, a10, a11, a12, a13, a14, a15, rfl⟩ := sixteen_ hk
  kernel_rfl
end
theorem ssC_sy (key : List UInt8) (d n : Nat) : (ssC key d n)[0]? = some (.bool false) := rfl
/-- A Sealer by sums. -/
def SN (w : World) (s : Nat) (key : List UInt8) (d n : Nat) : Prop := key.length = 16 ∧ CB w s 63 (ssC key d n)

set_option maxRecDepth 10000 in
set_option maxHeartbeats 1000000 in
theorem snewS_any (key : List UInt8) (hk : key.length = 16) (w : World) :
    Calls Tryd.prog 11 #[.bool false, .agg (bcells key).toArray] w fun e w' => e = .returned (.pointer (some ⟨w.heap.size + 1, 0, none⟩)) ∧ SN w' (w.heap.size + 1) key 0 0 ∧ w.grownBy w' none := by
  have HK := Lib.hid hk
  have K0 := Lib.hid (CB.new w 23 (bcells key))
  have G0 := Lib.hid (grown_alloc w (.cells (bcells key).toArray 23) none)
  have C1 := Lib.hid (CB.new1 w (.cells (bcells key).toArray 23) 63 (ssC key 0 0))
  have G1 := Lib.hid (grown_trans' G0.out (grown_alloc _ (.cells (ssC key 0 0).toArray 63) none))
  clear hk
  go_enter Tryd.func11, Tryd.ntmps11
  go_wp2_with (first
    | (refine wpList_loadC (off := 0) (p := bcells key) aggKy rfl (.tmp 3) rfl K0.out (take_all (by rw [bcells_length]; exact HK.out)) (by rw [bcells_length, HK.out]; omega) (by first | rfl | go_simp) ?_)
    | refine wpList_buildV (ps := #[(1, .agg (bcells key).toArray)]) rfl rfl (by first | rfl | go_simp) (run_buildSS HK.out _) ?_)
  go_ret
  exact ⟨rfl, ⟨HK.out, C1.out⟩, G1.out⟩

set_option maxRecDepth 10000 in
set_option maxHeartbeats 1000000 in
theorem sealS_any (w : World) (s : Nat) (seed : List UInt8) (d m : Nat) (h : SN w s seed d m) (hT : TB w) (hs0 : s ≠ 0) (key : List UInt8) (u : Int) (A : Option Addr) (l : List UInt8) (n cap : Nat) (hk : key.length = 16) (hn : l.length = n) (hp : RB w w.heap.size A l cap) (hpa : ∀ a, A = some a → l = [] ∨ a.block ≠ s) (hl : n ≤ 2000) (hm : m < 1000000) :
    Calls Tryd.prog 15 #[.pointer (some ⟨s, 0, none⟩), .agg (bcells key).toArray, .int .i64 u, .slice A n cap] w fun e w' => ∃ v, e = .returned (.tuple #[v, .int .i64 0]) ∧ OwnB w' w.heap.size 5 v (boxS key u m l) ∧ SN w' s seed d (m + 1) ∧ w.grownBy w' (some s) := by
  obtain ⟨hsk, hcb⟩ := h
  have HSK := Lib.hid hsk
  have HK := Lib.hid hk
  have HN := Lib.hid hn
  have HL := Lib.hid hl
  have HM := Lib.hid hm
  have hmi : (m : Int) < 1000000 := by omega
  have hni : ¬ (2000 : Int) < (n : Int) := by omega
  have G0 := Lib.hid (grown_alloc w (.cells (bcells key).toArray 23) (some s))
  have T0 := Lib.hid (hT.alloc (.cells (bcells key).toArray 23))
  have HS0 := Lib.hid (show some s ≠ some 0 from fun e => hs0 (by injection e))
  have R0 := Lib.hid (hp.keptS (grown_alloc w (.cells (bcells key).toArray 23) none))
  have HPA := Lib.hid hpa
  have HSL := Lib.hid (show s < w.heap.size from hcb.lt)
  have B0 := Lib.hid (hcb.alloc (.cells (bcells key).toArray 23))
  have q0 := (hcb.alloc (.cells (bcells key).toArray 23)).at_ (ssC_sy seed d m)
  have q18 := (hcb.alloc (.cells (bcells key).toArray 23)).at_ (ssC_se hsk d m)
  have K0 := Lib.hid (CB.new w 23 (bcells key))
  have hw1 : IntKind.u64.wrap ((m : Int) + 1) = (m : Int) + 1 := by rw [show IntKind.u64.wrap ((m : Int) + 1) = ((m : Int) + 1) % 18446744073709551616 by simp [IntKind.wrap, IntKind.bits, IntKind.signed]]; omega
  clear hsk hcb hT hk hn hl hm hp hpa hs0
  go_enter Tryd.func15, Tryd.ntmps15
  go_wp2_with (first
    | (refine wpList_setC (off := 18) szU64 rfl (.tmp 24) (.tmp 22) rfl .u64 ((m : Int) + 1) B0.out (by rw [ssC_len HSK.out]; omega) (by first | rfl | go_simp) (by first | rfl | go_simp) ?_; intro w2 h2 g2; rw [ssC_more HSK.out] at h2; have q2 := h2.at_ (ssC_sy seed d (m + 1)); have B2 := Lib.hid h2; have G2 := Lib.hid (grown_tr G0.out g2); have T2 := Lib.hid (T0.out.grown g2 HS0.out); have K2 := Lib.hid (K0.out.grown g2 (by have := HSL.out; omega)); have R2 := Lib.hid (R0.out.apartS g2 (fun a ha => (HPA.out a ha).imp id (fun q e => q (by injection e with e; exact e.symm)))); clear h2 g2 q0 q18)
    | (refine wpList_loadC (off := 0) (p := bcells key) aggKy rfl (.tmp 5) rfl K2.out (take_all (by rw [bcells_length]; exact HK.out)) (by rw [bcells_length, HK.out]; omega) (by first | rfl | go_simp) ?_)
    | (go_at_call 30; refine (sumBox_any m key u A l n cap _ (by have := HM.out; omega) T2.out HK.out HN.out R2.out (by have := HL.out; omega)).mono ?_; rintro e w3 ⟨v, rfl, o, g⟩; have O3 := Lib.hid (o.base_ G2.out.size); have B3 := Lib.hid (B2.out.kept g); have G3 := Lib.hid (grown_tr G2.out (grown_wk g (some s))); clear o g))
  go_ret2
  exact ⟨v, rfl, O3.out, ⟨HSK.out, B3.out⟩, G3.out⟩
end Go.Proofs.YtaanhancjmigdaaDoor
