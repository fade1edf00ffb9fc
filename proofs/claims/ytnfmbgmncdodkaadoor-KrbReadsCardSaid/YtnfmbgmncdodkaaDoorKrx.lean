/- krb.put, krb.Read; what is read of a message's bytes; the walk of KrbCuts. -/
import Derived.Test.YtnfmbgmncdodkaaDoorKrh
import Derived.Test.YtnfmbgmncdodkaaDoorTko
namespace Go.Proofs.YtnfmbgmncdodkaaDoor
open Go.RowKit

/-- What a field puts into a message. -/
def putK (m : Msg) (f : Fd) : Msg :=
  if f.1 = 31 then { m with kd := i64w (readOf f.2).1 } else if f.1 = 32 then { m with c := ba f.2 } else if f.1 = 33 then { m with s := ba f.2 } else if f.1 = 34 then { m with no := (readOf f.2).1 }
  else if f.1 = 35 then { m with en := i64w (readOf f.2).1 } else if f.1 = 36 then { m with fl := i64w (readOf f.2).1 } else if f.1 = 37 then { m with t := f.2 } else if f.1 = 38 then { m with sl := f.2 }
  else if f.1 = 39 then { m with co := i64w (readOf f.2).1 } else m
def mZero : Msg := ⟨0, ⟨#[]⟩, ⟨#[]⟩, 0, 0, 0, [], [], 0⟩
/-- What put leaves: the block g holds the message, its bytes where they were or in the field's value. -/
def PutP (w : World) (g : Nat) (m : Msg) (T : Option Addr) (tc : Nat) (S : Option Addr) (sc : Nat) (V : Option Addr) (vc : Nat) (f : Fd) (e : Ending) (w' : World) : Prop :=
  e = .returned (.tuple #[]) ∧ w.grownBy w' (some g) ∧ ∃ T' tc' S' sc', CB w' g 26 (kcells (putK m f) T' tc' S' sc') ∧
    ((putK m f).t = m.t ∧ T' = T ∧ tc' = tc ∨ (putK m f).t = f.2 ∧ T' = V ∧ tc' = vc) ∧ ((putK m f).sl = m.sl ∧ S' = S ∧ sc' = sc ∨ (putK m f).sl = f.2 ∧ S' = V ∧ sc' = vc)
set_option maxRecDepth 10000 in
set_option maxHeartbeats 1000000 in
theorem put_31 (m : Msg) (T : Option Addr) (tc : Nat) (S : Option Addr) (sc g : Nat) (V : Option Addr) (v : List UInt8) (vc vn : Nat) (w : World) (hn : v.length = vn) (hr : RB w w.heap.size V v vc) (h : CB w g 26 (kcells m T tc S sc)) :
    Calls Tryd.prog 22 #[.pointer (some ⟨g, 0, none⟩), .agg #[.int .i64 31, .slice V vn vc]] w fun e w' => PutP w g m T tc S sc V vc (31, v) e w' := by
  have HC := Lib.hid (h.alloc (.cells #[.int .i64 31, .slice V vn vc] 64))
  have HLT := Lib.hid h.lt
  have HR := Lib.hid (hr.keptB (grown_alloc w (.cells #[.int .i64 31, .slice V vn vc] 64) none))
  have HN := Lib.hid hn
  have G0 := Lib.hid (grown_alloc w (.cells #[.int .i64 31, .slice V vn vc] 64) (some g))
  obtain ⟨n, hnn⟩ : ∃ n, (readOf v).1 = n := ⟨_, rfl⟩
  have HNN := Lib.hid hnn
  obtain ⟨N, hN⟩ : ∃ N, IntKind.i64.wrap (n : Int) = N := ⟨_, rfl⟩
  have HPK := Lib.hid (show putK m (31, v) = { m with kd := N } by rw [← hN, ← hnn]; rfl)
  have HST := Lib.hid (show (kcells m T tc S sc).set 0 (.int .i64 N) = kcells ({ m with kd := N }) T tc S sc from rfl)
  have HL := Lib.hid (show 0 < (kcells m T tc S sc).length by rw [kcells_length]; omega)
  obtain ⟨X, hX⟩ : ∃ X, kcells m T tc S sc = X := ⟨_, rfl⟩
  rw [hX] at HC HST HL
  clear hX h hr hn hnn
  go_enter Tryd.func22, Tryd.ntmps22
  go_wp2_with (first
    | (go_at_call 44; have hrd := read_any V v vc _ _ HR.out; rw [HN.out, HNN.out] at hrd; refine hrd.mono ?_; rintro e w1 ⟨rfl, rfl⟩; clear hrd)
    | (refine wpList_storeC (off := 0) (p := [.int .i64 N]) (by kernel_rfl) rfl (.tmp 20) (.tmp 18) rfl (.int .i64 N) rfl (fun u hu => by rw [List.mem_singleton.1 hu]; rfl) HC.out rfl HL.out (by first | rfl | go_simp) (by first | rfl | go_simp) ?_; intro w2 h2 g2; rw [over_one _ _ _ HL.out, HST.out] at h2; have C2 := Lib.hid h2; have G2 := Lib.hid (grown_trans' G0.out g2); clear h2 g2))
  go_end0
  exact ⟨rfl, G2.out, T, tc, S, sc, by rw [HPK.out]; exact C2.out, (.inl ⟨by rw [HPK.out], rfl, rfl⟩), (.inl ⟨by rw [HPK.out], rfl, rfl⟩)⟩
set_option maxRecDepth 10000 in
set_option maxHeartbeats 1000000 in
theorem put_32 (m : Msg) (T : Option Addr) (tc : Nat) (S : Option Addr) (sc g : Nat) (V : Option Addr) (v : List UInt8) (vc vn : Nat) (w : World) (hn : v.length = vn) (hr : RB w w.heap.size V v vc) (h : CB w g 26 (kcells m T tc S sc)) :
    Calls Tryd.prog 22 #[.pointer (some ⟨g, 0, none⟩), .agg #[.int .i64 32, .slice V vn vc]] w fun e w' => PutP w g m T tc S sc V vc (32, v) e w' := by
  have HC := Lib.hid (h.alloc (.cells #[.int .i64 32, .slice V vn vc] 64))
  have HLT := Lib.hid h.lt
  have HR := Lib.hid (hr.keptB (grown_alloc w (.cells #[.int .i64 32, .slice V vn vc] 64) none))
  have HN := Lib.hid hn
  have G0 := Lib.hid (grown_alloc w (.cells #[.int .i64 32, .slice V vn vc] 64) (some g))
  obtain ⟨n, hnn⟩ : ∃ n, (readOf v).1 = n := ⟨_, rfl⟩
  have HNN := Lib.hid hnn
  have HPK := Lib.hid (show putK m (32, v) = { m with c := ba v } from rfl)
  have s1 := run_strB byteT Tryd.underlying9 HR.out
  rw [hn] at s1
  have HST := Lib.hid (show (kcells m T tc S sc).set 1 (.string (ba v)) = kcells ({ m with c := ba v }) T tc S sc from rfl)
  have HL := Lib.hid (show 1 < (kcells m T tc S sc).length by rw [kcells_length]; omega)
  obtain ⟨X, hX⟩ : ∃ X, kcells m T tc S sc = X := ⟨_, rfl⟩
  rw [hX] at HC HST HL
  clear hX h hr hn hnn
  go_enter Tryd.func22, Tryd.ntmps22
  go_wp2_with (first
    | (go_at_call 44; have hrd := read_any V v vc _ _ HR.out; rw [HN.out, HNN.out] at hrd; refine hrd.mono ?_; rintro e w1 ⟨rfl, rfl⟩; clear hrd)
    | (refine wpList_storeC (off := 1) (p := [.string (ba v)]) (by kernel_rfl) rfl (.tmp 28) (.tmp 26) rfl (.string (ba v)) rfl (fun u hu => by rw [List.mem_singleton.1 hu]; rfl) HC.out rfl HL.out (by first | rfl | go_simp) (by first | rfl | go_simp) ?_; intro w2 h2 g2; rw [over_one _ _ _ HL.out, HST.out] at h2; have C2 := Lib.hid h2; have G2 := Lib.hid (grown_trans' G0.out g2); clear h2 g2))
  go_end0
  exact ⟨rfl, G2.out, T, tc, S, sc, by rw [HPK.out]; exact C2.out, (.inl ⟨by rw [HPK.out], rfl, rfl⟩), (.inl ⟨by rw [HPK.out], rfl, rfl⟩)⟩
set_option maxRecDepth 10000 in
set_option maxHeartbeats 1000000 in
theorem put_33 (m : Msg) (T : Option Addr) (tc : Nat) (S : Option Addr) (sc g : Nat) (V : Option Addr) (v : List UInt8) (vc vn : Nat) (w : World) (hn : v.length = vn) (hr : RB w w.heap.size V v vc) (h : CB w g 26 (kcells m T tc S sc)) :
    Calls Tryd.prog 22 #[.pointer (some ⟨g, 0, none⟩), .agg #[.int .i64 33, .slice V vn vc]] w fun e w' => PutP w g m T tc S sc V vc (33, v) e w' := by
  have HC := Lib.hid (h.alloc (.cells #[.int .i64 33, .slice V vn vc] 64))
  have HLT := Lib.hid h.lt
  have HR := Lib.hid (hr.keptB (grown_alloc w (.cells #[.int .i64 33, .slice V vn vc] 64) none))
  have HN := Lib.hid hn
  have G0 := Lib.hid (grown_alloc w (.cells #[.int .i64 33, .slice V vn vc] 64) (some g))
  obtain ⟨n, hnn⟩ : ∃ n, (readOf v).1 = n := ⟨_, rfl⟩
  have HNN := Lib.hid hnn
  have HPK := Lib.hid (show putK m (33, v) = { m with s := ba v } from rfl)
  have s1 := run_strB byteT Tryd.underlying9 HR.out
  rw [hn] at s1
  have HST := Lib.hid (show (kcells m T tc S sc).set 2 (.string (ba v)) = kcells ({ m with s := ba v }) T tc S sc from rfl)
  have HL := Lib.hid (show 2 < (kcells m T tc S sc).length by rw [kcells_length]; omega)
  obtain ⟨X, hX⟩ : ∃ X, kcells m T tc S sc = X := ⟨_, rfl⟩
  rw [hX] at HC HST HL
  clear hX h hr hn hnn
  go_enter Tryd.func22, Tryd.ntmps22
  go_wp2_with (first
    | (go_at_call 44; have hrd := read_any V v vc _ _ HR.out; rw [HN.out, HNN.out] at hrd; refine hrd.mono ?_; rintro e w1 ⟨rfl, rfl⟩; clear hrd)
    | (refine wpList_storeC (off := 2) (p := [.string (ba v)]) (by kernel_rfl) rfl (.tmp 36) (.tmp 34) rfl (.string (ba v)) rfl (fun u hu => by rw [List.mem_singleton.1 hu]; rfl) HC.out rfl HL.out (by first | rfl | go_simp) (by first | rfl | go_simp) ?_; intro w2 h2 g2; rw [over_one _ _ _ HL.out, HST.out] at h2; have C2 := Lib.hid h2; have G2 := Lib.hid (grown_trans' G0.out g2); clear h2 g2))
  go_end0
  exact ⟨rfl, G2.out, T, tc, S, sc, by rw [HPK.out]; exact C2.out, (.inl ⟨by rw [HPK.out], rfl, rfl⟩), (.inl ⟨by rw [HPK.out], rfl, rfl⟩)⟩
set_option maxRecDepth 10000 in
set_option maxHeartbeats 1000000 in
theorem put_34 (m : Msg) (T : Option Addr) (tc : Nat) (S : Option Addr) (sc g : Nat) (V : Option Addr) (v : List UInt8) (vc vn : Nat) (w : World) (hn : v.length = vn) (hr : RB w w.heap.size V v vc) (h : CB w g 26 (kcells m T tc S sc)) :
    Calls Tryd.prog 22 #[.pointer (some ⟨g, 0, none⟩), .agg #[.int .i64 34, .slice V vn vc]] w fun e w' => PutP w g m T tc S sc V vc (34, v) e w' := by
  have HC := Lib.hid (h.alloc (.cells #[.int .i64 34, .slice V vn vc] 64))
  have HLT := Lib.hid h.lt
  have HR := Lib.hid (hr.keptB (grown_alloc w (.cells #[.int .i64 34, .slice V vn vc] 64) none))
  have HN := Lib.hid hn
  have G0 := Lib.hid (grown_alloc w (.cells #[.int .i64 34, .slice V vn vc] 64) (some g))
  obtain ⟨n, hnn⟩ : ∃ n, (readOf v).1 = n := ⟨_, rfl⟩
  have HNN := Lib.hid hnn
  have HPK := Lib.hid (show putK m (34, v) = { m with no := n } by rw [← hnn]; rfl)
  have HST := Lib.hid (show (kcells m T tc S sc).set 3 (.int .u64 (n : Int)) = kcells ({ m with no := n }) T tc S sc from rfl)
  have HL := Lib.hid (show 3 < (kcells m T tc S sc).length by rw [kcells_length]; omega)
  obtain ⟨X, hX⟩ : ∃ X, kcells m T tc S sc = X := ⟨_, rfl⟩
  rw [hX] at HC HST HL
  clear hX h hr hn hnn
  go_enter Tryd.func22, Tryd.ntmps22
  go_wp2_with (first
    | (go_at_call 44; have hrd := read_any V v vc _ _ HR.out; rw [HN.out, HNN.out] at hrd; refine hrd.mono ?_; rintro e w1 ⟨rfl, rfl⟩; clear hrd)
    | (refine wpList_storeC (off := 3) (p := [.int .u64 (n : Int)]) (by kernel_rfl) rfl (.tmp 42) (.tmp 40) rfl (.int .u64 (n : Int)) rfl (fun u hu => by rw [List.mem_singleton.1 hu]; rfl) HC.out rfl HL.out (by first | rfl | go_simp) (by first | rfl | go_simp) ?_; intro w2 h2 g2; rw [over_one _ _ _ HL.out, HST.out] at h2; have C2 := Lib.hid h2; have G2 := Lib.hid (grown_trans' G0.out g2); clear h2 g2))
  go_end0
  exact ⟨rfl, G2.out, T, tc, S, sc, by rw [HPK.out]; exact C2.out, (.inl ⟨by rw [HPK.out], rfl, rfl⟩), (.inl ⟨by rw [HPK.out], rfl, rfl⟩)⟩
set_option maxRecDepth 10000 in
set_option maxHeartbeats 1000000 in
theorem put_35 (m : Msg) (T : Option Addr) (tc : Nat) (S : Option Addr) (sc g : Nat) (V : Option Addr) (v : List UInt8) (vc vn : Nat) (w : World) (hn : v.length = vn) (hr : RB w w.heap.size V v vc) (h : CB w g 26 (kcells m T tc S sc)) :
    Calls Tryd.prog 22 #[.pointer (some ⟨g, 0, none⟩), .agg #[.int .i64 35, .slice V vn vc]] w fun e w' => PutP w g m T tc S sc V vc (35, v) e w' := by
  have HC := Lib.hid (h.alloc (.cells #[.int .i64 35, .slice V vn vc] 64))
  have HLT := Lib.hid h.lt
  have HR := Lib.hid (hr.keptB (grown_alloc w (.cells #[.int .i64 35, .slice V vn vc] 64) none))
  have HN := Lib.hid hn
  have G0 := Lib.hid (grown_alloc w (.cells #[.int .i64 35, .slice V vn vc] 64) (some g))
  obtain ⟨n, hnn⟩ : ∃ n, (readOf v).1 = n := ⟨_, rfl⟩
  have HNN := Lib.hid hnn
  obtain ⟨N, hN⟩ : ∃ N, IntKind.i64.wrap (n : Int) = N := ⟨_, rfl⟩
  have HPK := Lib.hid (show putK m (35, v) = { m with en := N } by rw [← hN, ← hnn]; rfl)
  have HST := Lib.hid (show (kcells m T tc S sc).set 4 (.int .i64 N) = kcells ({ m with en := N }) T tc S sc from rfl)
  have HL := Lib.hid (show 4 < (kcells m T tc S sc).length by rw [kcells_length]; omega)
  obtain ⟨X, hX⟩ : ∃ X, kcells m T tc S sc = X := ⟨_, rfl⟩
  rw [hX] at HC HST HL
  clear hX h hr hn hnn
  go_enter Tryd.func22, Tryd.ntmps22
  go_wp2_with (first
    | (go_at_call 44; have hrd := read_any V v vc _ _ HR.out; rw [HN.out, HNN.out] at hrd; refine hrd.mono ?_; rintro e w1 ⟨rfl, rfl⟩; clear hrd)
    | (refine wpList_storeC (off := 4) (p := [.int .i64 N]) (by kernel_rfl) rfl (.tmp 49) (.tmp 47) rfl (.int .i64 N) rfl (fun u hu => by rw [List.mem_singleton.1 hu]; rfl) HC.out rfl HL.out (by first | rfl | go_simp) (by first | rfl | go_simp) ?_; intro w2 h2 g2; rw [over_one _ _ _ HL.out, HST.out] at h2; have C2 := Lib.hid h2; have G2 := Lib.hid (grown_trans' G0.out g2); clear h2 g2))
  go_end0
  exact ⟨rfl, G2.out, T, tc, S, sc, by rw [HPK.out]; exact C2.out, (.inl ⟨by rw [HPK.out], rfl, rfl⟩), (.inl ⟨by rw [HPK.out], rfl, rfl⟩)⟩
set_option maxRecDepth 10000 in
set_option maxHeartbeats 1000000 in
theorem put_36 (m : Msg) (T : Option Addr) (tc : Nat) (S : Option Addr) (sc g : Nat) (V : Option Addr) (v : List UInt8) (vc vn : Nat) (w : World) (hn : v.length = vn) (hr : RB w w.heap.size V v vc) (h : CB w g 26 (kcells m T tc S sc)) :
    Calls Tryd.prog 22 #[.pointer (some ⟨g, 0, none⟩), .agg #[.int .i64 36, .slice V vn vc]] w fun e w' => PutP w g m T tc S sc V vc (36, v) e w' := by
  have HC := Lib.hid (h.alloc (.cells #[.int .i64 36, .slice V vn vc] 64))
  have HLT := Lib.hid h.lt
  have HR := Lib.hid (hr.keptB (grown_alloc w (.cells #[.int .i64 36, .slice V vn vc] 64) none))
  have HN := Lib.hid hn
  have G0 := Lib.hid (grown_alloc w (.cells #[.int .i64 36, .slice V vn vc] 64) (some g))
  obtain ⟨n, hnn⟩ : ∃ n, (readOf v).1 = n := ⟨_, rfl⟩
  have HNN := Lib.hid hnn
  obtain ⟨N, hN⟩ : ∃ N, IntKind.i64.wrap (n : Int) = N := ⟨_, rfl⟩
  have HPK := Lib.hid (show putK m (36, v) = { m with fl := N } by rw [← hN, ← hnn]; rfl)
  have HST := Lib.hid (show (kcells m T tc S sc).set 5 (.int .i64 N) = kcells ({ m with fl := N }) T tc S sc from rfl)
  have HL := Lib.hid (show 5 < (kcells m T tc S sc).length by rw [kcells_length]; omega)
  obtain ⟨X, hX⟩ : ∃ X, kcells m T tc S sc = X := ⟨_, rfl⟩
  rw [hX] at HC HST HL
  clear hX h hr hn hnn
  go_enter Tryd.func22, Tryd.ntmps22
  go_wp2_with (first
    | (go_at_call 44; have hrd := read_any V v vc _ _ HR.out; rw [HN.out, HNN.out] at hrd; refine hrd.mono ?_; rintro e w1 ⟨rfl, rfl⟩; clear hrd)
    | (refine wpList_storeC (off := 5) (p := [.int .i64 N]) (by kernel_rfl) rfl (.tmp 56) (.tmp 54) rfl (.int .i64 N) rfl (fun u hu => by rw [List.mem_singleton.1 hu]; rfl) HC.out rfl HL.out (by first | rfl | go_simp) (by first | rfl | go_simp) ?_; intro w2 h2 g2; rw [over_one _ _ _ HL.out, HST.out] at h2; have C2 := Lib.hid h2; have G2 := Lib.hid (grown_trans' G0.out g2); clear h2 g2))
  go_end0
  exact ⟨rfl, G2.out, T, tc, S, sc, by rw [HPK.out]; exact C2.out, (.inl ⟨by rw [HPK.out], rfl, rfl⟩), (.inl ⟨by rw [HPK.out], rfl, rfl⟩)⟩
set_option maxRecDepth 10000 in
set_option maxHeartbeats 1000000 in
theorem put_37 (m : Msg) (T : Option Addr) (tc : Nat) (S : Option Addr) (sc g : Nat) (V : Option Addr) (v : List UInt8) (vc vn : Nat) (w : World) (hn : v.length = vn) (hr : RB w w.heap.size V v vc) (h : CB w g 26 (kcells m T tc S sc)) :
    Calls Tryd.prog 22 #[.pointer (some ⟨g, 0, none⟩), .agg #[.int .i64 37, .slice V vn vc]] w fun e w' => PutP w g m T tc S sc V vc (37, v) e w' := by
  have HC := Lib.hid (h.alloc (.cells #[.int .i64 37, .slice V vn vc] 64))
  have HLT := Lib.hid h.lt
  have HR := Lib.hid (hr.keptB (grown_alloc w (.cells #[.int .i64 37, .slice V vn vc] 64) none))
  have HN := Lib.hid hn
  have G0 := Lib.hid (grown_alloc w (.cells #[.int .i64 37, .slice V vn vc] 64) (some g))
  obtain ⟨n, hnn⟩ : ∃ n, (readOf v).1 = n := ⟨_, rfl⟩
  have HNN := Lib.hid hnn
  have HPK := Lib.hid (show putK m (37, v) = { m with t := v } from rfl)
  have HST := Lib.hid (show (kcells m T tc S sc).set 6 (.slice V vn vc) = kcells ({ m with t := v }) V vc S sc from by rw [← HN.out]; rfl)
  have HL := Lib.hid (show 6 < (kcells m T tc S sc).length by rw [kcells_length]; omega)
  obtain ⟨X, hX⟩ : ∃ X, kcells m T tc S sc = X := ⟨_, rfl⟩
  rw [hX] at HC HST HL
  clear hX h hr hn hnn
  go_enter Tryd.func22, Tryd.ntmps22
  go_wp2_with (first
    | (go_at_call 44; have hrd := read_any V v vc _ _ HR.out; rw [HN.out, HNN.out] at hrd; refine hrd.mono ?_; rintro e w1 ⟨rfl, rfl⟩; clear hrd)
    | (refine wpList_storeC (off := 6) (p := [.slice V vn vc]) (by kernel_rfl) rfl (.tmp 63) (.tmp 61) rfl (.slice V vn vc) rfl (fun u hu => by rw [List.mem_singleton.1 hu]; rfl) HC.out rfl HL.out (by first | rfl | go_simp) (by first | rfl | go_simp) ?_; intro w2 h2 g2; rw [over_one _ _ _ HL.out, HST.out] at h2; have C2 := Lib.hid h2; have G2 := Lib.hid (grown_trans' G0.out g2); clear h2 g2))
  go_end0
  exact ⟨rfl, G2.out, V, vc, S, sc, by rw [HPK.out]; exact C2.out, (.inr ⟨by rw [HPK.out], rfl, rfl⟩), (.inl ⟨by rw [HPK.out], rfl, rfl⟩)⟩
set_option maxRecDepth 10000 in
set_option maxHeartbeats 1000000 in
theorem put_38 (m : Msg) (T : Option Addr) (tc : Nat) (S : Option Addr) (sc g : Nat) (V : Option Addr) (v : List UInt8) (vc vn : Nat) (w : World) (hn : v.length = vn) (hr : RB w w.heap.size V v vc) (h : CB w g 26 (kcells m T tc S sc)) :
    Calls Tryd.prog 22 #[.pointer (some ⟨g, 0, none⟩), .agg #[.int .i64 38, .slice V vn vc]] w fun e w' => PutP w g m T tc S sc V vc (38, v) e w' := by
  have HC := Lib.hid (h.alloc (.cells #[.int .i64 38, .slice V vn vc] 64))
  have HLT := Lib.hid h.lt
  have HR := Lib.hid (hr.keptB (grown_alloc w (.cells #[.int .i64 38, .slice V vn vc] 64) none))
  have HN := Lib.hid hn
  have G0 := Lib.hid (grown_alloc w (.cells #[.int .i64 38, .slice V vn vc] 64) (some g))
  obtain ⟨n, hnn⟩ : ∃ n, (readOf v).1 = n := ⟨_, rfl⟩
  have HNN := Lib.hid hnn
  have HPK := Lib.hid (show putK m (38, v) = { m with sl := v } from rfl)
  have HST := Lib.hid (show (kcells m T tc S sc).set 7 (.slice V vn vc) = kcells ({ m with sl := v }) T tc V vc from by rw [← HN.out]; rfl)
  have HL := Lib.hid (show 7 < (kcells m T tc S sc).length by rw [kcells_length]; omega)
  obtain ⟨X, hX⟩ : ∃ X, kcells m T tc S sc = X := ⟨_, rfl⟩
  rw [hX] at HC HST HL
  clear hX h hr hn hnn
  go_enter Tryd.func22, Tryd.ntmps22
  go_wp2_with (first
    | (go_at_call 44; have hrd := read_any V v vc _ _ HR.out; rw [HN.out, HNN.out] at hrd; refine hrd.mono ?_; rintro e w1 ⟨rfl, rfl⟩; clear hrd)
    | (refine wpList_storeC (off := 7) (p := [.slice V vn vc]) (by kernel_rfl) rfl (.tmp 70) (.tmp 68) rfl (.slice V vn vc) rfl (fun u hu => by rw [List.mem_singleton.1 hu]; rfl) HC.out rfl HL.out (by first | rfl | go_simp) (by first | rfl | go_simp) ?_; intro w2 h2 g2; rw [over_one _ _ _ HL.out, HST.out] at h2; have C2 := Lib.hid h2; have G2 := Lib.hid (grown_trans' G0.out g2); clear h2 g2))
  go_end0
  exact ⟨rfl, G2.out, T, tc, V, vc, by rw [HPK.out]; exact C2.out, (.inl ⟨by rw [HPK.out], rfl, rfl⟩), (.inr ⟨by rw [HPK.out], rfl, rfl⟩)⟩
set_option maxRecDepth 10000 in
set_option maxHeartbeats 1000000 in
theorem put_39 (m : Msg) (T : Option Addr) (tc : Nat) (S : Option Addr) (sc g : Nat) (V : Option Addr) (v : List UInt8) (vc vn : Nat) (w : World) (hn : v.length = vn) (hr : RB w w.heap.size V v vc) (h : CB w g 26 (kcells m T tc S sc)) :
    Calls Tryd.prog 22 #[.pointer (some ⟨g, 0, none⟩), .agg #[.int .i64 39, .slice V vn vc]] w fun e w' => PutP w g m T tc S sc V vc (39, v) e w' := by
  have HC := Lib.hid (h.alloc (.cells #[.int .i64 39, .slice V vn vc] 64))
  have HLT := Lib.hid h.lt
  have HR := Lib.hid (hr.keptB (grown_alloc w (.cells #[.int .i64 39, .slice V vn vc] 64) none))
  have HN := Lib.hid hn
  have G0 := Lib.hid (grown_alloc w (.cells #[.int .i64 39, .slice V vn vc] 64) (some g))
  obtain ⟨n, hnn⟩ : ∃ n, (readOf v).1 = n := ⟨_, rfl⟩
  have HNN := Lib.hid hnn
  obtain ⟨N, hN⟩ : ∃ N, IntKind.i64.wrap (n : Int) = N := ⟨_, rfl⟩
  have HPK := Lib.hid (show putK m (39, v) = { m with co := N } by rw [← hN, ← hnn]; rfl)
  have HST := Lib.hid (show (kcells m T tc S sc).set 8 (.int .i64 N) = kcells ({ m with co := N }) T tc S sc from rfl)
  have HL := Lib.hid (show 8 < (kcells m T tc S sc).length by rw [kcells_length]; omega)
  obtain ⟨X, hX⟩ : ∃ X, kcells m T tc S sc = X := ⟨_, rfl⟩
  rw [hX] at HC HST HL
  clear hX h hr hn hnn
  go_enter Tryd.func22, Tryd.ntmps22
  go_wp2_with (first
    | (go_at_call 44; have hrd := read_any V v vc _ _ HR.out; rw [HN.out, HNN.out] at hrd; refine hrd.mono ?_; rintro e w1 ⟨rfl, rfl⟩; clear hrd)
    | (refine wpList_storeC (off := 8) (p := [.int .i64 N]) (by kernel_rfl) rfl (.tmp 77) (.tmp 75) rfl (.int .i64 N) rfl (fun u hu => by rw [List.mem_singleton.1 hu]; rfl) HC.out rfl HL.out (by first | rfl | go_simp) (by first | rfl | go_simp) ?_; intro w2 h2 g2; rw [over_one _ _ _ HL.out, HST.out] at h2; have C2 := Lib.hid h2; have G2 := Lib.hid (grown_trans' G0.out g2); clear h2 g2))
  go_end0
  exact ⟨rfl, G2.out, T, tc, S, sc, by rw [HPK.out]; exact C2.out, (.inl ⟨by rw [HPK.out], rfl, rfl⟩), (.inl ⟨by rw [HPK.out], rfl, rfl⟩)⟩
set_option maxRecDepth 10000 in
set_option maxHeartbeats 1000000 in
theorem put_no (tag : Int) (m : Msg) (T : Option Addr) (tc : Nat) (S : Option Addr) (sc g : Nat) (V : Option Addr) (v : List UInt8) (vc vn : Nat) (w : World) (h31 : tag ≠ 31) (h32 : tag ≠ 32) (h33 : tag ≠ 33) (h34 : tag ≠ 34) (h35 : tag ≠ 35) (h36 : tag ≠ 36) (h37 : tag ≠ 37) (h38 : tag ≠ 38) (h39 : tag ≠ 39) (hn : v.length = vn) (hr : RB w w.heap.size V v vc) (h : CB w g 26 (kcells m T tc S sc)) :
    Calls Tryd.prog 22 #[.pointer (some ⟨g, 0, none⟩), .agg #[.int .i64 tag, .slice V vn vc]] w fun e w' => PutP w g m T tc S sc V vc (tag, v) e w' := by
  have HC := Lib.hid (h.alloc (.cells #[.int .i64 tag, .slice V vn vc] 64))
  have HR := Lib.hid (hr.keptB (grown_alloc w (.cells #[.int .i64 tag, .slice V vn vc] 64) none))
  have HN := Lib.hid hn
  have G0 := Lib.hid (grown_alloc w (.cells #[.int .i64 tag, .slice V vn vc] 64) (some g))
  have HPK := Lib.hid (show putK m (tag, v) = m by unfold putK; rw [if_neg h31, if_neg h32, if_neg h33, if_neg h34, if_neg h35, if_neg h36, if_neg h37, if_neg h38, if_neg h39])
  have e31 : (tag == 31) = false := by simpa using h31
  have e32 : (tag == 32) = false := by simpa using h32
  have e33 : (tag == 33) = false := by simpa using h33
  have e34 : (tag == 34) = false := by simpa using h34
  have e35 : (tag == 35) = false := by simpa using h35
  have e36 : (tag == 36) = false := by simpa using h36
  have e37 : (tag == 37) = false := by simpa using h37
  have e38 : (tag == 38) = false := by simpa using h38
  have e39 : (tag == 39) = false := by simpa using h39
  obtain ⟨n, hnn⟩ : ∃ n, (readOf v).1 = n := ⟨_, rfl⟩
  have HNN := Lib.hid hnn
  clear h hr hn hnn h31 h32 h33 h34 h35 h36 h37 h38 h39
  go_enter Tryd.func22, Tryd.ntmps22
  go_wp2_with (go_at_call 44; have hrd := read_any V v vc _ _ HR.out; rw [HN.out, HNN.out] at hrd; refine hrd.mono ?_; rintro e w1 ⟨rfl, rfl⟩; clear hrd)
  go_end0
  exact ⟨rfl, G0.out, T, tc, S, sc, by rw [HPK.out]; exact HC.out, .inl ⟨by rw [HPK.out], rfl, rfl⟩, .inl ⟨by rw [HPK.out], rfl, rfl⟩⟩
theorem put_any (tag : Int) (m : Msg) (T : Option Addr) (tc : Nat) (S : Option Addr) (sc g : Nat) (V : Option Addr) (v : List UInt8) (vc vn : Nat) (w : World) (hn : v.length = vn) (hr : RB w w.heap.size V v vc) (h : CB w g 26 (kcells m T tc S sc)) :
    Calls Tryd.prog 22 #[.pointer (some ⟨g, 0, none⟩), .agg #[.int .i64 tag, .slice V vn vc]] w fun e w' => PutP w g m T tc S sc V vc (tag, v) e w' := by
  by_cases h31 : tag = 31
  · subst h31; exact put_31 m T tc S sc g V v vc vn w hn hr h
  by_cases h32 : tag = 32
  · subst h32; exact put_32 m T tc S sc g V v vc vn w hn hr h
  by_cases h33 : tag = 33
  · subst h33; exact put_33 m T tc S sc g V v vc vn w hn hr h
  by_cases h34 : tag = 34
  · subst h34; exact put_34 m T tc S sc g V v vc vn w hn hr h
  by_cases h35 : tag = 35
  · subst h35; exact put_35 m T tc S sc g V v vc vn w hn hr h
  by_cases h36 : tag = 36
  · subst h36; exact put_36 m T tc S sc g V v vc vn w hn hr h
  by_cases h37 : tag = 37
  · subst h37; exact put_37 m T tc S sc g V v vc vn w hn hr h
  by_cases h38 : tag = 38
  · subst h38; exact put_38 m T tc S sc g V v vc vn w hn hr h
  by_cases h39 : tag = 39
  · subst h39; exact put_39 m T tc S sc g V v vc vn w hn hr h
  exact put_no tag m T tc S sc g V v vc vn w h31 h32 h33 h34 h35 h36 h37 h38 h39 hn hr h

/-- The message of fields. -/
def foldK (fs : List Fd) : Msg := fs.foldl putK mZero
/-- Are bytes a message's? -/
def readsK (l : List UInt8) : Bool := decide ((splitOf l).2 = 0) && (okK (foldK (splitOf l).1) && decide (bytesK (foldK (splitOf l).1) = l))
def madeK (l : List UInt8) : Msg := foldK (splitOf l).1
def kZero : List Value := kcells mZero none 0 none 0
/-- What the ones that read answer: a message in memory of its own. -/
def RdK (w : World) (ok : Bool) (m : Msg) (e : Ending) (w' : World) : Prop :=
  w.grownBy w' none ∧ if ok = true then ∃ T tc S sc, e = .returned (.tuple #[.agg (kcells m T tc S sc).toArray, .int .i64 0]) ∧ KM w' w'.heap.size m T tc S sc ∧ (∀ a, T = some a → w.heap.size ≤ a.block) ∧ (∀ a, S = some a → w.heap.size ≤ a.block)
    else e = .returned (.tuple #[.agg kZero.toArray, .int .i64 21])
theorem putK_small (m : Msg) (f : Fd) (n : Nat) (hf : f.2.length ≤ n) (h : m.c.size ≤ n ∧ m.s.size ≤ n ∧ m.t.length ≤ n ∧ m.sl.length ≤ n) : (putK m f).c.size ≤ n ∧ (putK m f).s.size ≤ n ∧ (putK m f).t.length ≤ n ∧ (putK m f).sl.length ≤ n := by
  have hb : (ba f.2).size = f.2.length := by show f.2.toArray.size = _; simp
  obtain ⟨h1, h2, h3, h4⟩ := h
  unfold putK
  repeat' split
  all_goals (refine ⟨?_, ?_, ?_, ?_⟩ <;> first | omega | (simp only; omega))
theorem putK_no (m : Msg) (f : Fd) (h : m.no < 18446744073709551616) : (putK m f).no < 18446744073709551616 := by
  have := readOf_lt f.2
  unfold putK
  repeat' split
  all_goals first | omega | (simp only; omega)
theorem foldK_take (fs : List Fd) (k : Nat) (f : Fd) (h : fs[k]? = some f) : foldK (fs.take (k + 1)) = putK (foldK (fs.take k)) f := by
  rw [List.take_add_one, h]
  simp [foldK, List.foldl_append]

theorem OwnF.openA {w : World} {base : Nat} {tF tB : TypeId} {v : Value} {fs : List Fd} (h : OwnF w base tF tB v fs) (hp : 0 < fs.length) : ∃ b off cap, v = .slice (some ⟨b, off, none⟩) fs.length cap ∧ b < w.heap.size ∧ ∀ k f, fs[k]? = some f →
    w.cell? ⟨b, off + k * 2, none⟩ = some (.int .i64 f.1) ∧ ∃ V c, w.cell? ⟨b, off + k * 2 + 1, none⟩ = some (.slice V f.2.length c) ∧ RB w w.heap.size V f.2 c ∧ (∀ a, V = some a → base ≤ a.block) := by
  obtain ⟨vs, h1, h2, h3⟩ := h
  rcases h2.2 with ⟨rfl, hl⟩ | ⟨g, cap, cur, rfl, hb, hg, hc, hm, _⟩
  · omega
  · refine ⟨g, 0, cap, rfl, (Array.getElem?_eq_some_iff.1 hg).1, fun k f hf => ?_⟩
    have hk : k < vs.length := by rw [h1]; exact (List.getElem?_eq_some_iff.1 hf).1
    have hu := List.getElem?_eq_getElem hk
    obtain ⟨c0, c1⟩ := fcells_at fs vs k f _ hf hu
    obtain ⟨V, c, hV, hr, hbb⟩ := (h3 k f _ hf hu).shape
    have d0 := h2.cells (g := g) rfl _ _ c0
    have d1 := h2.cells (g := g) rfl _ _ c1
    rw [Addr.add_lit, Nat.mul_comm 2 k] at d0
    rw [Addr.add_lit, Nat.mul_comm 2 k, ← Nat.add_assoc] at d1
    refine ⟨d0, V, c, ?_, hr, hbb⟩
    rw [← hV]
    exact d1
theorem aggFd : AggT Tryd.prog 64 2 := ⟨fun w => by kernel_rfl, by kernel_rfl⟩
def zeroF : List Value := [.int .i64 0, .slice none 0 0]
theorem zeroFd (w : World) : (zeroValue 64).run Tryd.prog w = .ok (.agg zeroF.toArray) w := by kernel_rfl
theorem aggKr : AggT Tryd.prog 26 9 := ⟨fun w => by kernel_rfl, by kernel_rfl⟩
theorem zeroKr (w : World) : (zeroValue 26).run Tryd.prog w = .ok (.agg kZero.toArray) w := by kernel_rfl
theorem kZero_one : ∀ u ∈ kZero, u.oneCell' = true := kcells_one _ _ _ _ _
theorem foldK_inv (P : Msg → Prop) (fs : List Fd) (h0 : P mZero) (hs : ∀ m f, f ∈ fs → P m → P (putK m f)) : P (foldK fs) := by
  have h : ∀ (l : List Fd) (m : Msg), (∀ f ∈ l, f ∈ fs) → P m → P (l.foldl putK m) := by
    intro l
    induction l with
    | nil => intro m _ hm; exact hm
    | cons f l ih => intro m hl hm; exact ih _ (fun g hg => hl g (by simp [hg])) (hs m f (hl f (by simp)) hm)
  exact h fs mZero (fun _ hf => hf) h0
theorem foldK_lens (fs : List Fd) (h : ∀ f ∈ fs, f.2.length ≤ 10000) : lensK (foldK fs) ∧ (foldK fs).no < 18446744073709551616 := by
  have h1 := foldK_inv (fun m => m.c.size ≤ 10000 ∧ m.s.size ≤ 10000 ∧ m.t.length ≤ 10000 ∧ m.sl.length ≤ 10000) fs (by decide) (fun m f hf hm => putK_small m f 10000 (h f hf) hm)
  have h2 := foldK_inv (fun m => m.no < 18446744073709551616) fs (by decide) (fun m f _ hm => putK_no m f hm)
  refine ⟨?_, h2⟩
  unfold lensK
  omega
/-- Where a message's bytes lie: behind the call's own first block. -/
def Own2 (B : Nat) (T S : Option Addr) : Prop := (∀ a, T = some a → B ≤ a.block) ∧ (∀ a, S = some a → B ≤ a.block)
/-- What holds of the message that is being read. -/
def Reading (B : Nat) (g : Nat) (m : Msg) (w : World) : Prop := ∃ T tc S sc, CB w g 26 (kcells m T tc S sc) ∧ KM w w.heap.size m T tc S sc ∧ Own2 B T S
theorem Reading.put {B g : Nat} {m : Msg} {f : Fd} {T : Option Addr} {tc : Nat} {S : Option Addr} {sc : Nat} {V : Option Addr} {vc : Nat} {w w' : World} {e : Ending} (hk : KM w' w'.heap.size m T tc S sc) (ho : Own2 B T S) (hv : RB w' w'.heap.size V f.2 vc) (hb : ∀ a, V = some a → B ≤ a.block) (h : PutP w g m T tc S sc V vc f e w') : Reading B g (putK m f) w' := by
  obtain ⟨_, _, T', tc', S', sc', hc, ht, hs⟩ := h
  refine ⟨T', tc', S', sc', hc, ⟨?_, ?_⟩, ⟨?_, ?_⟩⟩
  · rcases ht with ⟨h1, rfl, rfl⟩ | ⟨h1, rfl, rfl⟩
    · rw [h1]; exact hk.1
    · rw [h1]; exact hv
  · rcases hs with ⟨h1, rfl, rfl⟩ | ⟨h1, rfl, rfl⟩
    · rw [h1]; exact hk.2
    · rw [h1]; exact hv
  · rcases ht with ⟨h1, rfl, rfl⟩ | ⟨h1, rfl, rfl⟩
    · exact ho.1
    · exact hb
  · rcases hs with ⟨h1, rfl, rfl⟩ | ⟨h1, rfl, rfl⟩
    · exact ho.2
    · exact hb
theorem RB.otherU {w w' : World} {g : Nat} {t : TypeId} {cs : List Value} {A : Option Addr} {l : List UInt8} {c : Nat} (h : RB w w.heap.size A l c) (hg : w.grownBy w' (some g)) (hc : CB w g t cs) (hcs : ∀ (i : Nat) (u : UInt8), cs[i]? ≠ some (.int .u8 (u.toNat : Int))) : RB w' w'.heap.size A l c := by
  refine h.apart hg (fun a ha => ?_)
  rcases h.2.2 with ⟨h1, _⟩ | ⟨a', h1, h2⟩
  · rw [h1] at ha; cases ha
  · rw [h1] at ha
    injection ha with ha
    subst ha
    cases l with
    | nil => exact .inl rfl
    | cons u l =>
      refine .inr (fun he => ?_)
      injection he with he
      have h3 := (h2 0 u rfl).2
      have hz : a'.add 0 = a' := by simp [Addr.add]
      rw [hz] at h3
      have hs : a'.spot = none := World.cell?_spot h3
      obtain ⟨b, off, sp⟩ := a'
      simp only at he hs
      subst he hs
      rw [cell_of_row w g off _ t (0, 0) hc, List.getElem?_toArray] at h3
      exact hcs off u h3
theorem kcells_u8 (m : Msg) (T : Option Addr) (tc : Nat) (S : Option Addr) (sc : Nat) : ∀ (i : Nat) (u : UInt8), (kcells m T tc S sc)[i]? ≠ some (.int .u8 (u.toNat : Int)) := by
  intro i u
  unfold kcells
  rcases i with _ | _ | _ | _ | _ | _ | _ | _ | _ | i <;> simp

theorem len_tot : ∀ fs : List Fd, fs.length ≤ tot fs
  | [] => by simp
  | f :: fs => by
    have h1 := len_tot fs
    have h2 : tot (f :: fs) = f.2.length + 3 + tot fs := by simp [tot]
    rw [List.length_cons, h2]
    omega
theorem kZeroL : kZero.length = 9 := rfl
theorem RdK.no {w w' : World} {m : Msg} {e : Ending} {ok : Bool} (ho : ok = false) (hg : w.grownBy w' none) (h : e = .returned (.tuple #[.agg kZero.toArray, .int .i64 21])) : RdK w ok m e w' := ⟨hg, by rw [if_neg (by rw [ho]; simp)]; exact h⟩
theorem RdK.yes {w w' : World} {m : Msg} {e : Ending} {ok : Bool} {T : Option Addr} {tc : Nat} {S : Option Addr} {sc : Nat} (ho : ok = true) (hg : w.grownBy w' none) (h : e = .returned (.tuple #[.agg (kcells m T tc S sc).toArray, .int .i64 0])) (hk : KM w' w'.heap.size m T tc S sc) (hT : ∀ a, T = some a → w.heap.size ≤ a.block) (hS : ∀ a, S = some a → w.heap.size ≤ a.block) : RdK w ok m e w' :=
  ⟨hg, by rw [if_pos ho]; exact ⟨T, tc, S, sc, h, hk, hT, hS⟩⟩
theorem KM.keptK {w w' : World} {m : Msg} {T : Option Addr} {tc : Nat} {S : Option Addr} {sc : Nat} (h : KM w w.heap.size m T tc S sc) (hg : w.grownBy w' none) : KM w' w'.heap.size m T tc S sc := ⟨h.1.keptB hg, h.2.keptB hg⟩
theorem KM.otherU {w w' : World} {g : Nat} {t : TypeId} {cs : List Value} {m : Msg} {T : Option Addr} {tc : Nat} {S : Option Addr} {sc : Nat} (h : KM w w.heap.size m T tc S sc) (hg : w.grownBy w' (some g)) (hc : CB w g t cs) (hcs : ∀ (i : Nat) (u : UInt8), cs[i]? ≠ some (.int .u8 (u.toNat : Int))) : KM w' w'.heap.size m T tc S sc := ⟨h.1.otherU hg hc hcs, h.2.otherU hg hc hcs⟩

set_option maxRecDepth 10000 in
set_option maxHeartbeats 4000000 in
theorem kread_any (n cap : Nat) (A : Option Addr) (l : List UInt8) (w : World) (hM : ML w) (hn : l.length = n) (hb : n ≤ 10000) (h : RB w w.heap.size A l cap) :
    Calls Tryd.prog 6 #[.slice A n cap] w fun e w' => RdK w (readsK l) (madeK l) e w' := by
  have HM := Lib.hid hM
  have HN := Lib.hid hn
  have HB := Lib.hid hb
  have R0 := Lib.hid h
  have GA := Lib.hid (grown_alloc w (.cells kZero.toArray 26) none)
  have BA := Lib.hid (CB.new w 26 kZero)
  have RA := Lib.hid (h.keptB GA.out)
  obtain ⟨FS, e0, hs⟩ : ∃ FS e0, splitOf l = (FS, e0) := ⟨_, _, rfl⟩
  have HSP := Lib.hid hs
  by_cases he : e0 = 0
  · subst he
    obtain ⟨M, hMM⟩ : ∃ M, foldK FS = M := ⟨_, rfl⟩
    have HMM := Lib.hid hMM
    have HMD := Lib.hid (show madeK l = M by rw [madeK, hs]; exact hMM)
    have HFL := Lib.hid (show ∀ f ∈ FS, f.2.length ≤ 10000 from fun f hf => by
      have h1 := len_of_tot FS f hf
      have h2 := tot_splitOf l
      rw [hs] at h2
      simp only at h2
      omega)
    have HLN := Lib.hid (show lensK M ∧ M.no < 18446744073709551616 by rw [← hMM]; exact foldK_lens FS HFL.out)
    obtain ⟨ok, hok⟩ : ∃ b, okK M = b := ⟨_, rfl⟩
    have HOK := Lib.hid hok
    obtain ⟨Y, hY⟩ : ∃ Y, bytesK M = Y := ⟨_, rfl⟩
    have HY := Lib.hid hY
    obtain ⟨ny, hny⟩ : ∃ n, Y.length = n := ⟨_, rfl⟩
    have HNY := Lib.hid hny
    obtain ⟨eq, heq⟩ : ∃ b, decide (Y = l) = b := ⟨_, rfl⟩
    have HEQ := Lib.hid heq
    have HRD := Lib.hid (show readsK l = (ok && eq) by rw [readsK, hs]; simp only [decide_true, Bool.true_and]; rw [hMM, hok, hY, heq])
    obtain ⟨fn, hfn⟩ : ∃ n, FS.length = n := ⟨_, rfl⟩
    have HFN := Lib.hid hfn
    have HFB := Lib.hid (show fn ≤ 10000 by
      have h2 := tot_splitOf l
      rw [hs] at h2
      have h3 := len_tot FS
      simp only at h2
      omega)
    rw [HMD.out]
    clear hM hn hb h hs hMM hok hY hny heq hfn
    go_enter Tryd.func6, Tryd.ntmps6
    go_wp2_with (first
      | refine wpList_allocC zeroKr rfl rfl ?_
      | (go_at_call 21; refine (split_any A l cap n _ HN.out RA.out (by have := HB.out; omega)).mono ?_; rw [HSP.out]; rintro e w1 ⟨v, rfl, o, b1⟩; have GV := Lib.hid (none_of_below b1 (Nat.le_refl _)); have G1 := Lib.hid (grown_trans' GA.out GV.out); have B1 := Lib.hid (BA.out.kept GV.out); have O1 := Lib.hid (o.base_ GA.out.size); obtain ⟨FA, fc, rfl, rf, -⟩ := o.shape; rw [HFN.out]; have C6 := Lib.hid (CB.new w1 26 kZero); have G6 := Lib.hid (grown_trans' G1.out (grown_alloc w1 (.cells kZero.toArray 26) none)); clear o b1 rf))
    go_loopw [21] (fun i wr => ∃ k : Nat, i = .int .i64 k ∧ k ≤ fn ∧ Reading w.heap.size w1.heap.size (foldK (FS.take k)) wr ∧ w1.grownBy wr none) (fun i _ => fn - (intOf i).toNat)
    case atStart => exact ⟨0, rfl, Nat.zero_le _, ⟨none, 0, none, 0, C6.out, ⟨RB.nil_ _ _, RB.nil_ _ _⟩, ⟨fun a ha => (by cases ha), fun a ha => (by cases ha)⟩⟩, grown_alloc _ _ _⟩
    case round =>
      obtain ⟨k, rfl, hk, ⟨T, tc, S, sc, hc, hkm, hown⟩, hg⟩ := hrel
      have CR := Lib.hid hc
      have KR := Lib.hid hkm
      have OR := Lib.hid hown
      have GR := Lib.hid hg
      have GW := Lib.hid (grown_trans' G1.out hg)
      have BR := Lib.hid (B1.out.kept hg)
      obtain ⟨m, hm⟩ : ∃ m, foldK (FS.take k) = m := ⟨_, rfl⟩
      have Hm := Lib.hid hm
      rw [hm] at CR KR
      clear hc hkm hown hg hm
      by_cases hlt : k < fn
      · have hlti : (k : Int) < (fn : Int) := by omega
        have hfb : (fn : Int) ≤ 10000 := by have := HFB.out; omega
        obtain ⟨f, hf⟩ : ∃ f, FS[k]? = some f := ⟨_, List.getElem?_eq_getElem (by rw [HFN.out]; exact hlt)⟩
        have HFT := Lib.hid (show foldK (FS.take (k + 1)) = putK m f by rw [foldK_take FS k f hf, Hm.out])
        obtain ⟨tg, v⟩ := f
        obtain ⟨b, off, fc2, hsl, hbk, hcell⟩ := O1.out.openA (by rw [HFN.out]; omega)
        rw [HFN.out] at hsl
        injection hsl with hs1 hs2 hs3
        subst hs1
        subst hs3
        obtain ⟨c0, V, vc, c1, hrv, hvb⟩ := hcell k (tg, v) hf
        obtain ⟨nv, hnv⟩ : ∃ n, v.length = n := ⟨_, rfl⟩
        have HNV := Lib.hid hnv
        simp only at c0 c1 hrv
        rw [hnv] at c1
        have k1 : wr.cell? ⟨b, off + k * 2, none⟩ = some (.int .i64 tg) := ((below_of_none GR.out).cell (p := ⟨b, off + k * 2, none⟩) hbk).trans c0
        have k2 : wr.cell? ⟨b, off + k * 2 + 1, none⟩ = some (.slice V nv vc) := ((below_of_none GR.out).cell (p := ⟨b, off + k * 2 + 1, none⟩) hbk).trans c1
        have RVr := Lib.hid (hrv.keptB GR.out)
        have HVB := Lib.hid hvb
        have HFO := Lib.hid (show ∀ u ∈ ([.int .i64 tg, .slice V nv vc] : List Value), u.oneCell' = true from fun u hu => by
          simp only [List.mem_cons, List.not_mem_nil, or_false] at hu
          rcases hu with rfl | rfl <;> rfl)
        clear hcell c0 c1 hrv hvb hf hnv hbk hs2
        go_wp2_with (first
          | refine wpList_allocC zeroFd rfl rfl ?_
          | (refine wpList_storeC (off := 0) (p := [.int .i64 tg, .slice V nv vc]) aggFd.hi rfl (.tmp 8) (.tmp 24) rfl (.agg #[.int .i64 tg, .slice V nv vc]) rfl HFO.out (CB.new wr 64 zeroF) rfl (by decide) (by first | rfl | go_simp) (by first | rfl | go_simp) ?_; intro w2 h2 g2; rw [over_all _ _ (show zeroF.length ≤ ([.int .i64 tg, .slice V nv vc] : List Value).length from Nat.le_refl 2)] at h2; have C8 := Lib.hid h2; have g3 := none_new (grown_alloc wr (.cells zeroF.toArray 64) none) g2 (Nat.le_refl _); have G8 := Lib.hid (grown_trans' GR.out g3); have CR2 := Lib.hid (CR.out.kept g3); have KR2 := Lib.hid (KR.out.keptK g3); have RV2 := Lib.hid (RVr.out.keptB g3); clear h2 g2 g3)
          | refine wpList_loadC (off := 0) (p := [.int .i64 tg, .slice V nv vc]) aggFd rfl (.tmp 8) rfl C8.out rfl (Nat.le_refl _) (by first | rfl | go_simp) ?_
          | (go_at_call 22; refine (put_any tg m T tc S sc w1.heap.size V v vc nv _ HNV.out RV2.out CR2.out).mono ?_; intro e w3 hp; have hg3 := hp.2.1; have RD := Lib.hid (Reading.put (KR2.out.otherU hg3 CR2.out (kcells_u8 _ _ _ _ _)) OR.out (RV2.out.otherU hg3 CR2.out (kcells_u8 _ _ _ _ _)) HVB.out hp); have he := hp.1; subst he; have G9 := Lib.hid (none_new G8.out hg3 (Nat.le_refl _)); clear hp hg3))
        go_roundw
        case rel => exact ⟨k + 1, by go_num, by omega, by rw [HFT.out]; exact RD.out, G9.out⟩
        case measure => first | (simp [intOf]; done) | (simp [intOf]; omega)
      · obtain rfl : k = fn := by omega
        have HmM : m = M := by rw [← Hm.out, List.take_of_length_le (by rw [HFN.out]; exact Nat.le_refl _), HMM.out]
        subst HmM
        clear hlt hk
        have RO := Lib.hid (R0.out.keptB GW.out)
        have TK1 := Lib.hid True.intro
        cases ok with
        | false =>
          go_wp2_with (first
            | (have hx := TK1; clear hx; refine wpList_loadC (off := 0) (p := kcells m T tc S sc) aggKr rfl (.tmp 6) rfl CR.out rfl (Nat.le_refl _) (by first | rfl | go_simp) ?_)
            | (go_at_call 9; refine (kwrite_any m T tc S sc wr.heap.size _ (HM.out.below (below_of_none GW.out)) KR.out (Nat.le_refl _) HLN.out.2 HLN.out.1).mono ?_; rw [HOK.out]; rintro e w4 ⟨g, h⟩; rw [if_neg (by simp)] at h; subst h; have HGX := Lib.hid (grown_trans' GW.out g); have HBZX := Lib.hid (BR.out.kept g); clear g TK1)
            | (refine wpList_storeC (off := 0) (p := kZero) aggKr.hi rfl (.tmp 2) (.tmp 41) rfl _ (by first | rfl | kernel_rfl) kZero_one HBZX.out rfl (by rw [kZeroL]; omega) (by first | rfl | go_simp) rfl ?_; intro wz hz gz; rw [over_all _ _ (Nat.le_refl _)] at hz; have GZ := Lib.hid (none_new HGX.out gz (Nat.le_refl _)); have CZ := Lib.hid hz; clear hz gz))
          exact bodyPost_ret (results_C2 rfl _ aggKr CZ.out rfl rfl rfl) rfl (RdK.no (by rw [HRD.out]; rfl) GZ.out rfl)
        | true =>
          cases eq with
          | false =>
            go_wp2_with (first
              | (have hx := TK1; clear hx; refine wpList_loadC (off := 0) (p := kcells m T tc S sc) aggKr rfl (.tmp 6) rfl CR.out rfl (Nat.le_refl _) (by first | rfl | go_simp) ?_)
              | (go_at_call 9; refine (kwrite_any m T tc S sc wr.heap.size _ (HM.out.below (below_of_none GW.out)) KR.out (Nat.le_refl _) HLN.out.2 HLN.out.1).mono ?_; rw [HOK.out]; rintro e w4 ⟨g, h⟩; rw [if_pos rfl] at h; obtain ⟨v, rfl, bb⟩ := h; obtain ⟨A4, c4, rfl, r4⟩ := bb; rw [HY.out] at r4; rw [HY.out, HNY.out]; have R4 := Lib.hid r4; have HGX := Lib.hid (grown_trans' GW.out g); have HBZX := Lib.hid (BR.out.kept g); have C6X := Lib.hid (CR.out.kept g); have KX := Lib.hid (KR.out.keptK g); have RO4 := Lib.hid (RO.out.keptB g); clear g TK1 r4)
              | (go_at_call 23; refine (bytesEq_any A4 A Y l ny c4 n cap _ HNY.out HN.out R4.out RO4.out).mono ?_; rw [HEQ.out]; rintro e w5 ⟨rfl, rfl⟩)
              | (refine wpList_storeC (off := 0) (p := kZero) aggKr.hi rfl (.tmp 2) (.tmp 41) rfl _ (by first | rfl | kernel_rfl) kZero_one HBZX.out rfl (by rw [kZeroL]; omega) (by first | rfl | go_simp) rfl ?_; intro wz hz gz; rw [over_all _ _ (Nat.le_refl _)] at hz; have GZ := Lib.hid (none_new HGX.out gz (Nat.le_refl _)); have CZ := Lib.hid hz; clear hz gz))
            exact bodyPost_ret (results_C2 rfl _ aggKr CZ.out rfl rfl rfl) rfl (RdK.no (by rw [HRD.out]; rfl) GZ.out rfl)
          | true =>
            go_wp2_with (first
              | (have hx := TK1; clear hx; refine wpList_loadC (off := 0) (p := kcells m T tc S sc) aggKr rfl (.tmp 6) rfl CR.out rfl (Nat.le_refl _) (by first | rfl | go_simp) ?_)
              | (go_at_call 9; refine (kwrite_any m T tc S sc wr.heap.size _ (HM.out.below (below_of_none GW.out)) KR.out (Nat.le_refl _) HLN.out.2 HLN.out.1).mono ?_; rw [HOK.out]; rintro e w4 ⟨g, h⟩; rw [if_pos rfl] at h; obtain ⟨v, rfl, bb⟩ := h; obtain ⟨A4, c4, rfl, r4⟩ := bb; rw [HY.out] at r4; rw [HY.out, HNY.out]; have R4 := Lib.hid r4; have HGX := Lib.hid (grown_trans' GW.out g); have HBZX := Lib.hid (BR.out.kept g); have C6X := Lib.hid (CR.out.kept g); have KX := Lib.hid (KR.out.keptK g); have RO4 := Lib.hid (RO.out.keptB g); clear g TK1 r4)
              | (go_at_call 23; refine (bytesEq_any A4 A Y l ny c4 n cap _ HNY.out HN.out R4.out RO4.out).mono ?_; rw [HEQ.out]; rintro e w5 ⟨rfl, rfl⟩)
              | refine wpList_loadC (off := 0) (p := kcells m T tc S sc) aggKr rfl (.tmp 6) rfl C6X.out rfl (Nat.le_refl _) (by first | rfl | go_simp) ?_
              | (refine wpList_storeC (off := 0) (p := kcells m T tc S sc) aggKr.hi rfl (.tmp 2) (.tmp 42) rfl (.agg (kcells m T tc S sc).toArray) rfl (kcells_one _ _ _ _ _) HBZX.out rfl (Nat.le_refl _) (by first | rfl | go_simp) rfl ?_; intro wz hz gz; rw [over_all _ _ (show kZero.length ≤ (kcells m T tc S sc).length from Nat.le_refl 9)] at hz; have GZ := Lib.hid (none_new HGX.out gz (Nat.le_refl _)); have CZ := Lib.hid hz; have KZ := Lib.hid (KX.out.otherU gz HBZX.out (kcells_u8 _ _ _ _ _)); clear hz gz))
            exact bodyPost_ret (results_C2 rfl _ aggKr CZ.out rfl rfl rfl) rfl (RdK.yes (ok := readsK l) (by rw [HRD.out]; rfl) GZ.out rfl KZ.out OR.out.1 OR.out.2)
  · have HRN := Lib.hid (show readsK l = false by rw [readsK, hs]; simp [he])
    have he1 : (e0 == 0) = false := by simpa using he
    have HE := Lib.hid he
    clear hM hn hb h hs he
    go_enter Tryd.func6, Tryd.ntmps6
    go_wp2_with (first
      | refine wpList_allocC zeroKr rfl rfl ?_
      | (go_at_call 21; refine (split_any A l cap n _ HN.out RA.out (by have := HB.out; omega)).mono ?_; rw [HSP.out]; rintro e w1 ⟨v, rfl, o, b1⟩; have GV := Lib.hid (none_of_below b1 (Nat.le_refl _)); have HGX := Lib.hid (grown_trans' GA.out GV.out); have HBZX := Lib.hid (BA.out.kept GV.out); clear o b1)
      | (refine wpList_storeC (off := 0) (p := kZero) aggKr.hi rfl (.tmp 2) (.tmp 18) rfl _ (by first | rfl | kernel_rfl) kZero_one HBZX.out rfl (by rw [kZeroL]; omega) (by first | rfl | go_simp) rfl ?_; intro wz hz gz; rw [over_all _ _ (Nat.le_refl _)] at hz; have GZ := Lib.hid (none_new HGX.out gz (Nat.le_refl _)); have CZ := Lib.hid hz; clear hz gz))
    exact bodyPost_ret (results_C2 rfl _ aggKr CZ.out rfl rfl rfl) rfl (RdK.no (HRN.out) GZ.out rfl)

theorem tagsK_cons {k : Int} (h : tagsK k ≠ []) : ∃ tl, tagsK k = 31 :: tl := by
  have h1 := tagsK_first h
  cases ht : tagsK k with
  | nil => exact absurd ht h
  | cons a tl =>
    rw [ht] at h1
    simp at h1
    exact ⟨tl, by rw [h1]⟩
theorem kd_of_bytes {a b : Msg} (la : lensK a) (lb : lensK b) (oa : okK a = true) (ob : okK b = true) {r s : List UInt8} (h : bytesK a ++ r = bytesK b ++ s) : a.kd = b.kd := by
  obtain ⟨ta, ha⟩ := tagsK_cons (okK_tags oa)
  obtain ⟨tb, hb⟩ := tagsK_cons (okK_tags ob)
  have fa : fieldsK a = (31, valK a 31) :: ta.map fun t => (t, valK a t) := by rw [fieldsK, ha]; rfl
  have fb : fieldsK b = (31, valK b 31) :: tb.map fun t => (t, valK b t) := by rw [fieldsK, hb]; rfl
  have ca := fieldsK_chk a la (31, valK a 31) (by rw [fa]; simp)
  have cb := fieldsK_chk b lb (31, valK b 31) (by rw [fb]; simp)
  have ea : bytesK a ++ r = fieldB (31, valK a 31) ++ (bytesF (ta.map fun t => (t, valK a t)) ++ r) := by rw [bytesK, fa, ← List.append_assoc]; rfl
  have eb : bytesK b ++ s = fieldB (31, valK b 31) ++ (bytesF (tb.map fun t => (t, valK b t)) ++ s) := by rw [bytesK, fb, ← List.append_assoc]; rfl
  have h1 := firstOf_fieldB (31, valK a 31) (bytesF (ta.map fun t => (t, valK a t)) ++ r) ca
  rw [← ea, h, eb, firstOf_fieldB _ _ cb] at h1
  have h2 : valK b 31 = valK a 31 := (Prod.mk.inj (Prod.mk.inj h1).1).2
  have h3 : u64n b.kd = u64n a.kd := numB_inj (u64n_lt _) (u64n_lt _) h2
  have ka := tagsK_kind (okK_tags oa)
  have kb := tagsK_kind (okK_tags ob)
  exact (u64n_inj (by unfold I64; omega) (by unfold I64; omega) h3).symm
theorem readsK_of {l : List UInt8} (hl : l.length ≤ 10000) (h : readsK l = true) : ∃ M, okK M = true ∧ lensK M ∧ bytesK M = l := by
  simp only [readsK, Bool.and_eq_true, decide_eq_true_eq] at h
  obtain ⟨h0, h1, h2⟩ := h
  refine ⟨foldK (splitOf l).1, h1, (foldK_lens _ fun f hf => ?_).1, h2⟩
  have h3 := len_of_tot _ f hf
  have h4 := tot_splitOf l
  omega
theorem kprefix {a b : Msg} (la : lensK a) (lb : lensK b) (oa : okK a = true) (ob : okK b = true) {r : List UInt8} (h : bytesK b ++ r = bytesK a) : r = [] := by
  have hk := kd_of_bytes lb la ob oa (r := r) (s := []) (by rw [List.append_nil]; exact h)
  exact bytes_prefix (fieldsK_chk a la) (fieldsK_chk b lb) (by unfold fieldsK; rw [List.length_map, List.length_map, hk]) h
theorem readsK_cut {m : Msg} (lm : lensK m) (om : okK m = true) {j : Nat} (hj : j < (bytesK m).length) (hl : (bytesK m).length ≤ 10000) : readsK ((bytesK m).take j) = false := by
  cases hr : readsK ((bytesK m).take j) with
  | false => rfl
  | true =>
    obtain ⟨M, h1, h2, h3⟩ := readsK_of (by rw [List.length_take]; omega) hr
    have h4 := kprefix lm h2 om h1 (r := (bytesK m).drop j) (by rw [h3, List.take_append_drop])
    have := take_all h4
    omega
theorem readsK_more {m : Msg} (lm : lensK m) (om : okK m = true) {r : List UInt8} (hr0 : r ≠ []) (hl : (bytesK m ++ r).length ≤ 10000) : readsK (bytesK m ++ r) = false := by
  cases hr : readsK (bytesK m ++ r) with
  | false => rfl
  | true =>
    obtain ⟨M, h1, h2, h3⟩ := readsK_of hl hr
    exact absurd (kprefix h2 lm h1 om h3.symm) hr0
theorem i64_back {x : Int} (h : I64 x) : i64w (readOf (numB (u64n x))).1 = x := by
  rw [readOf_numB _ (u64n_lt x)]
  unfold i64w u64n I64 at *
  rw [IntKind.wrap_i64]
  omega
theorem nil_ba {c : ByteArray} (h : c.data.toList = []) : c = ⟨#[]⟩ := ba_inj (by rw [h])
theorem numB_u64_nil {x : Int} (hi : I64 x) (h : numB (u64n x) = []) : x = 0 := by
  have h1 := numB_nil (u64n_lt x) (by rw [h]; rfl)
  unfold u64n I64 at *
  omega
set_option maxHeartbeats 1000000 in
theorem foldK_back {m : Msg} (om : okK m = true) (i : I64K m) : foldK (fieldsK m) = m := by
  obtain ⟨i1, i2, i3, i4, i5⟩ := i
  have hc := tagsK_kind (okK_tags om)
  have n := fun t h1 h2 => valK_none (m := m) om (t := t) h1 h2
  have n32 : ¬ (32 : Int) ∈ tagsK m.kd → m.c = ⟨#[]⟩ := fun h => nil_ba (n 32 (by omega) (by omega) h)
  have n33 : ¬ (33 : Int) ∈ tagsK m.kd → m.s = ⟨#[]⟩ := fun h => nil_ba (n 33 (by omega) (by omega) h)
  have n35 : ¬ (35 : Int) ∈ tagsK m.kd → m.en = 0 := fun h => numB_u64_nil i2 (n 35 (by omega) (by omega) h)
  have n36 : ¬ (36 : Int) ∈ tagsK m.kd → m.fl = 0 := fun h => numB_u64_nil i3 (n 36 (by omega) (by omega) h)
  have n37 : ¬ (37 : Int) ∈ tagsK m.kd → m.t = [] := fun h => n 37 (by omega) (by omega) h
  have n38 : ¬ (38 : Int) ∈ tagsK m.kd → m.sl = [] := fun h => n 38 (by omega) (by omega) h
  have n39 : ¬ (39 : Int) ∈ tagsK m.kd → m.co = 0 := fun h => numB_u64_nil i4 (n 39 (by omega) (by omega) h)
  have b1 := i64_back i1
  have b2 := i64_back i2
  have b3 := i64_back i3
  have b4 := i64_back i4
  have b5 : (readOf (numB m.no)).1 = m.no := by rw [readOf_numB _ i5]
  have b6 := ba_of m.c
  have b7 := ba_of m.s
  obtain ⟨kd, c, s, no, en, fl, t, sl, co⟩ := m
  simp only at *
  have hk : kd = 1 ∨ kd = 2 ∨ kd = 3 ∨ kd = 4 ∨ kd = 5 ∨ kd = 6 ∨ kd = 7 := by omega
  rcases hk with rfl | rfl | rfl | rfl | rfl | rfl | rfl
  all_goals
    simp only [fieldsK, tagsK, foldK, putK, valK, mZero, List.map_cons, List.map_nil, List.foldl_cons, List.foldl_nil, b1, b2, b3, b4, b5, b6, b7, Int.reduceEq, if_true, if_false]
  · rw [n37 (by decide), n38 (by decide), n39 (by decide)]
  · rw [n32 (by decide), n39 (by decide)]
  · rw [n32 (by decide), n33 (by decide), n35 (by decide), n36 (by decide), n39 (by decide)]
  · rw [n32 (by decide), n33 (by decide), n35 (by decide), n36 (by decide), n39 (by decide)]
  · rw [n32 (by decide), n33 (by decide), n35 (by decide), n36 (by decide), n37 (by decide), n39 (by decide)]
  · rw [n32 (by decide), n33 (by decide), n35 (by decide), n36 (by decide), n37 (by decide), n39 (by decide)]
  · rw [n32 (by decide), n33 (by decide), n35 (by decide), n36 (by decide), n37 (by decide), n38 (by decide)]
theorem readsK_back {m : Msg} (lm : lensK m) (om : okK m = true) (i : I64K m) : readsK (bytesK m) = true ∧ madeK (bytesK m) = m := by
  have h1 : splitOf (bytesK m) = (fieldsK m, 0) := splitOf_bytes (fieldsK_chk m lm)
  have h2 := foldK_back om i
  constructor
  · rw [readsK, h1, h2, om]
    simp
  · rw [madeK, h1]
    exact h2
theorem valK_small {m : Msg} (om : okK m = true) : (∀ t, t ≠ 37 → t ≠ 38 → (valK m t).length ≤ 67) ∧ (valK m 37).length ≤ 3000 ∧ (valK m 38).length ≤ 3000 := by
  have n1 := numB_length (u64n m.kd)
  have n2 := numB_length m.no
  have n3 := numB_length (u64n m.en)
  have n4 := numB_length (u64n m.fl)
  have n5 := numB_length (u64n m.co)
  have step := fun t h1 h2 => okK_step (m := m) om (t := t) h1 h2
  have s32 : m.c.data.toList.length ≤ 67 := by
    have h := step 32 (by omega) (by omega)
    unfold stepK at h
    split at h
    · exact parses_len h
    · have h2 : decide (m.c.data.toList.length = 0) = true := h
      have h3 := of_decide_eq_true h2
      omega
  have s33 : m.s.data.toList.length ≤ 67 := by
    have h := step 33 (by omega) (by omega)
    unfold stepK at h
    split at h
    · exact parses_len h
    · have h2 : decide (m.s.data.toList.length = 0) = true := h
      have h3 := of_decide_eq_true h2
      omega
  have s37 : m.t.length ≤ 3000 := by
    have h := step 37 (by omega) (by omega)
    unfold stepK at h
    split at h
    · have h2 : decide (m.t.length ≤ 3000) = true := h
      simpa using h2
    · have h2 : decide (m.t.length = 0) = true := h
      simp at h2
      rw [h2]; simp
  have s38 : m.sl.length ≤ 3000 := by
    have h := step 38 (by omega) (by omega)
    unfold stepK at h
    split at h
    · have h2 : decide (m.sl.length ≤ 3000) = true := h
      simpa using h2
    · have h2 : decide (m.sl.length = 0) = true := h
      simp at h2
      rw [h2]; simp
  refine ⟨fun t h1 h2 => ?_, s37, s38⟩
  unfold valK
  repeat' split
  all_goals first | omega | simp
theorem bytesK_len {m : Msg} (om : okK m = true) : (bytesK m).length ≤ 8000 := by
  obtain ⟨h, h37, h38⟩ := valK_small om
  have v31 := h 31 (by omega) (by omega)
  have v32 := h 32 (by omega) (by omega)
  have v33 := h 33 (by omega) (by omega)
  have v34 := h 34 (by omega) (by omega)
  have v35 := h 35 (by omega) (by omega)
  have v36 := h 36 (by omega) (by omega)
  have v39 := h 39 (by omega) (by omega)
  have hc := tagsK_kind (okK_tags om)
  have hk : m.kd = 1 ∨ m.kd = 2 ∨ m.kd = 3 ∨ m.kd = 4 ∨ m.kd = 5 ∨ m.kd = 6 ∨ m.kd = 7 := by omega
  rw [bytesK, bytesF_length, fieldsK]
  rcases hk with e | e | e | e | e | e | e <;> rw [e] <;> simp only [tagsK, Int.reduceEq, if_true, if_false, List.map_cons, List.map_nil, tot, List.sum_cons, List.sum_nil] <;> omega
theorem bytesK_pos {m : Msg} (om : okK m = true) : 0 < (bytesK m).length := by
  obtain ⟨tl, ht⟩ := tagsK_cons (okK_tags om)
  rw [bytesK, bytesF_length, fieldsK, ht]
  simp only [List.map_cons, tot, List.sum_cons]
  omega

end Go.Proofs.YtnfmbgmncdodkaaDoor
