/- The walk of the Hasher's pad. -/
import Derived.Test.YtndnmjolcilamaaDoorAd
namespace Go.Proofs.YtndnmjolcilamaaDoor
open Go.RowKit

def zeros (n : Nat) : List UInt8 := List.replicate n 0
theorem zeros_length (n : Nat) : (zeros n).length = n := by simp [zeros]
/-- How many noughts. -/
def gapOf (c : Nat) : Nat := (120 - (c + 1) % 64) % 64
theorem gap_fact (c : Nat) (h : c < 1000000000000) : (18446744073709551616 + 56 - (c + 1)) % 18446744073709551616 % 64 = gapOf c := by
  unfold gapOf
  omega
theorem gap_wrap (c : Nat) (h : c < 1000000000000) : IntKind.u64.wrap (56 - ((c : Int) + 1)) = (((18446744073709551616 + 56 - (c + 1)) % 18446744073709551616 : Nat) : Int) := by
  rw [show ∀ y, IntKind.u64.wrap y = y % 18446744073709551616 from fun _ => rfl]
  omega
def lenBytes (c : Nat) : List UInt8 := bytesOf (UInt32.ofNat (8 * c / 4294967296)) ++ bytesOf (UInt32.ofNat (8 * c % 4294967296))
theorem lenBytes_length (c : Nat) : (lenBytes c).length = 8 := rfl
def padBytes (c : Nat) : List UInt8 := [128] ++ zeros (gapOf c) ++ lenBytes c
def padOf (s : HSt) : HSt := s.adds (padBytes s.c)
theorem zeroB64 (w : World) : (zeroValue 76).run Tryd.prog w = .ok (.agg (bcells (zeros 64)).toArray) w := by kernel_rfl
theorem zeroB8 (w : World) : (zeroValue 80).run Tryd.prog w = .ok (.agg (bcells (zeros 8)).toArray) w := by kernel_rfl
theorem zeros_take (n k : Nat) (h : k ≤ n) : ((zeros n).drop 0).take k = zeros k := by
  rw [List.drop_zero, zeros, List.take_replicate, Nat.min_eq_left h]
  rfl
theorem over_len (u v : UInt32) : over (over (bcells (zeros 8)) 0 (bcells (bytesOf u))) 4 (bcells (bytesOf v)) = bcells (bytesOf u ++ bytesOf v) := rfl
theorem TB.alloc {w : World} (h : TB w) (o : Obj) : TB (w.alloc o) := h.grown (grown_alloc w o none) (fun e => by cases e)
/-- A piece of a block of bytes, as a slice. -/
theorem RN.of_CB {w : World} {g g2 off : Nat} {t : TypeId} {l p : List UInt8} {n cap : Nat} (h : CB w g2 t (bcells l)) (hg : g2 ≠ g) (hn : (l.drop off).take n = p) (hp : p.length ≤ cap) (hm : cap ≤ maxLen) : RN w g (some ⟨g2, off, none⟩) p cap :=
  ⟨hp, hm, fun _ => ⟨g2, off, rfl, hg, fun k u hu => by
    subst hn
    have hk : k < n := by
      have := (List.getElem?_eq_some_iff.1 hu).1
      rw [List.length_take] at this
      omega
    rw [List.getElem?_take_of_lt hk, List.getElem?_drop] at hu
    exact h.at_ (bcells_some hu)⟩⟩

set_option maxRecDepth 10000 in
set_option maxHeartbeats 400000 in
theorem pad_any (g : Nat) (s : HSt) (w : World) (hT : TB w) (hg0 : g ≠ 0) (hw : s.ws.length = 8) (hb : s.bl.length = 64) (hc : s.c < 1000000000000)
    (h : CB w g 109 (hcells s.ws s.bl s.c)) :
    Calls Tryd.prog 71 #[.pointer (some ⟨g, 0, none⟩)] w fun e w' => e = .returned (.tuple #[]) ∧ CB w' g 109 (hcells (padOf s).ws (padOf s).bl (padOf s).c) ∧ w.grownBy w' (some g) := by
  have HT := Lib.hid hT
  have HG0 := Lib.hid hg0
  have HC := Lib.hid hc
  have H := Lib.hid h
  have hgl := h.lt
  have HGL := Lib.hid hgl
  have hcnt := h.at_ (hcells_count hw hb)
  obtain ⟨c, hcc⟩ : ∃ c, c = s.c := ⟨_, rfl⟩
  obtain ⟨bc, hbc⟩ : ∃ b, b = 8 * c := ⟨_, rfl⟩
  obtain ⟨hi, hhi⟩ : ∃ b, b = bc / 4294967296 := ⟨_, rfl⟩
  obtain ⟨lo, hlo⟩ : ∃ b, b = bc % 4294967296 := ⟨_, rfl⟩
  obtain ⟨e, he⟩ : ∃ e, e = gapOf c := ⟨_, rfl⟩
  rw [← hcc] at hcnt
  have hel : e < 64 := by rw [he, gapOf]; omega
  have hcl : c < 1000000000000 := by omega
  obtain ⟨y, hy⟩ : ∃ y, y = c + 1 := ⟨_, rfl⟩
  have w5 := gap_wrap c hcl
  rw [show (c : Int) + 1 = (y : Int) by omega] at w5
  have HY := Lib.hid hy
  clear hy
  have w6 := gap_fact c hcl
  rw [← he] at w6
  obtain ⟨x, hx⟩ : ∃ x, x = (18446744073709551616 + 56 - (c + 1)) % 18446744073709551616 := ⟨_, rfl⟩
  rw [← hx] at w5 w6
  have w7 : (x : Int).tmod 64 = (e : Int) := by rw [Int.tmod_eq_emod_of_nonneg (by omega)]; omega
  clear w6 hx
  have w1 : IntKind.u64.wrap ((c : Int) * 8) = (bc : Int) := by rw [show ∀ y, IntKind.u64.wrap y = y % 18446744073709551616 from fun _ => rfl]; omega
  obtain ⟨uh, huh⟩ : ∃ u, u = UInt32.ofNat hi := ⟨_, rfl⟩
  obtain ⟨ul, hul⟩ : ∃ u, u = UInt32.ofNat lo := ⟨_, rfl⟩
  have euh : uh.toNat = hi := by rw [huh, ofNat_toNat32 _ (by omega)]
  have eul : ul.toNat = lo := by rw [hul, ofNat_toNat32 _ (by omega)]
  have w2 : (bc : Int) / 4294967296 = (uh.toNat : Int) := by omega
  have w3 : IntKind.u32.wrap (uh.toNat : Int) = (uh.toNat : Int) := u32_wrap uh
  have w4 : (bc : Int) % 4294967296 = (ul.toNat : Int) := by omega
  have w4' : IntKind.u32.wrap (bc : Int) = (ul.toNat : Int) := by rw [show ∀ y, IntKind.u32.wrap y = y % 4294967296 from fun _ => rfl]; exact w4
  have hlb : bytesOf uh ++ bytesOf ul = lenBytes s.c := by rw [lenBytes, ← hcc, ← hbc, ← hhi, ← hlo, ← huh, ← hul]
  have HLB := Lib.hid hlb
  clear hlb euh eul huh hul
  have b1 : (e : Int) ≤ 64 := by omega
  have HE := Lib.hid he
  have HEL := Lib.hid hel
  have HCC := Lib.hid hcc
  clear hT hg0 hc h hgl hcc hbc hhi hlo he hel hcl
  have hs0 := compress_len s [128] hw hb
  obtain ⟨s1, hs1⟩ : ∃ z, z = s.adds [128] := ⟨_, rfl⟩
  rw [← hs1] at hs0
  have HS1 := Lib.hid hs1
  have HS1L := Lib.hid hs0
  have hs2 := compress_len s1 (zeros e) hs0.1 hs0.2.1
  have E1 := Lib.hid (show (s1.c : Int) = (y : Int) by have h1 := hs0.2.2; have h2 := HCC.out; have h3 := HY.out; rw [List.length_singleton] at h1; omega)
  obtain ⟨s2, hs2'⟩ : ∃ z, z = s1.adds (zeros e) := ⟨_, rfl⟩
  rw [← hs2'] at hs2
  have HS2 := Lib.hid hs2'
  have HS2L := Lib.hid hs2
  have HB1 := Lib.hid (show s1.c + e < 1152921504606846976 by have h1 := hs0.2.2; have h2 := HC.out; have h3 := HEL.out; rw [List.length_singleton] at h1; omega)
  have HB2 := Lib.hid (show s2.c + 8 < 1152921504606846976 by have h0 := hs2.2.2; have h1 := hs0.2.2; have h2 := HC.out; have h3 := HEL.out; rw [List.length_singleton] at h1; rw [zeros_length] at h0; omega)
  have HPD := Lib.hid (show s2.adds (lenBytes s.c) = padOf s by rw [padOf, padBytes, adds_append, adds_append, ← hs1, ← HCC.out, ← HE.out, ← hs2', HCC.out])
  clear hs0 hs1 hs2 hs2'
  go_enter Tryd.func71, Tryd.ntmps71
  go_wp2_with (first
    | (go_at_call 58; have hx := H8; clear hx; refine (add_any g 8 8 s2 _ (lenBytes s.c) _ (HT.out.grown G8.out (fun e => HG0.out (by injection e))) HG0.out HS2L.out.1 HS2L.out.2.1 (lenBytes_length _) HB2.out H8.out (RN.of_CB (n := 8) (off := 0) D8.out (by have := H5.out.lt; omega) (by rw [List.drop_zero]; exact List.take_of_length_le (by rw [lenBytes_length]; exact Nat.le_refl _)) (by rw [lenBytes_length]; exact Nat.le_refl _) (by unfold maxLen; omega))).mono ?_; rintro e9 w9 ⟨rfl, h9, g9⟩; rw [HPD.out] at h9; have H9 := Lib.hid h9; have G9 := Lib.hid (grown_trans' G8.out g9); clear h9 g9)
    | (go_at_call 72; have hx := D7; clear hx; refine (putWord_any w5.heap.size 4 4 4 _ _ ul _ (by omega) D7.out (by rw [over_length _ _ _ (by rw [bcells_length, bcells_length, zeros_length, bytesOf_length]; omega), bcells_length, zeros_length]; omega)).mono ?_; rintro e8 w8 ⟨rfl, d8, g8⟩; rw [over_len, HLB.out] at d8; have D8 := Lib.hid d8; have H8 := Lib.hid (H7.out.grown g8 (by have := H5.out.lt; omega)); have G8 := Lib.hid (grown_new G7.out g8 (by have := G5.out.size; omega)); clear d8 g8)
    | (go_at_call 72; have hx := D6; clear hx; refine (putWord_any w5.heap.size 0 8 8 _ _ uh _ (by omega) D6.out (by rw [bcells_length, zeros_length]; omega)).mono ?_; rintro e7 w7 ⟨rfl, d7, g7⟩; have D7 := Lib.hid d7; have H7 := Lib.hid (H6.out.grown g7 (by have := H5.out.lt; omega)); have G7 := Lib.hid (grown_new (grown_trans' G5.out (grown_alloc _ _ _)) g7 (by have := G5.out.size; omega)); clear d7 g7)
    | (have hx := H5; clear hx; refine wpList_allocC zeroB8 rfl rfl ?_; have H6 := Lib.hid (H5.out.alloc (.cells (bcells (zeros 8)).toArray 80)); have D6 := Lib.hid (CB.new w5 80 (bcells (zeros 8))))
    | (go_at_call 58; have hx := H3; clear hx; refine (add_any g e 64 s1 _ (zeros e) _ ((HT.out.grown G3.out (fun e => HG0.out (by injection e))).alloc _) HG0.out HS1L.out.1 HS1L.out.2.1 (zeros_length e) HB1.out (H3.out.alloc _) (RN.of_CB (n := e) (off := 0) (CB.new w3 _ (bcells (zeros 64))) (by have := HGL.out; have := G3.out.size; omega) (zeros_take 64 e (by have := HEL.out; omega)) (by rw [zeros_length]; have := HEL.out; omega) (by unfold maxLen; omega))).mono ?_; rintro e5 w5 ⟨rfl, h5, g5⟩; rw [← HS2.out] at h5; have H5 := Lib.hid h5; have G5 := Lib.hid (grown_trans' (grown_trans' G3.out (grown_alloc _ _ _)) g5); clear h5 g5 hcnt3)
    | (go_at_call 58; refine (add_any g 1 1 s _ [128] _ (HT.out.alloc _) HG0.out hw hb rfl (by have := HC.out; omega) (H.out.alloc _) (RN.of_CB (n := 1) (off := 0) (CB.new w _ (bcells [128])) (by have := HGL.out; omega) rfl (Nat.le_refl _) (by unfold maxLen; omega))).mono ?_; rintro e3 w3 ⟨rfl, h3, g3⟩; rw [← HS1.out] at h3; have H3 := Lib.hid h3; have G3 := Lib.hid (grown_trans' (grown_alloc w _ _) g3); clear h3 g3)
    | (have hx := H3; clear hx; refine wpList_allocC zeroB64 rfl rfl ?_; have hcnt3 := (H3.out.alloc (.cells (bcells (zeros 64)).toArray 76)).at_ (hcells_count HS1L.out.1 HS1L.out.2.1); rw [E1.out] at hcnt3))
  go_end0
  exact ⟨rfl, H9.out, G9.out⟩
end Go.Proofs.YtndnmjolcilamaaDoor
