/- The walk of the law SealTurned. -/
import Derived.Test.YtaanhancjmigdaaDoorSeq
import Derived.Test.YtaanhancjmigdaaDoorInz
namespace Go.Proofs.YtaanhancjmigdaaDoor
open Go.RowKit Go.Maps

theorem RB.cell0 {w : World} {B g c k : Nat} {l : List UInt8} {u : UInt8} (h : RB w B (some ⟨g, 0, none⟩) l c) (hk : l[k]? = some u) : w.cell? ⟨g, k, none⟩ = some (.int .u8 (u.toNat : Int)) := by
  obtain ⟨-, -, h3⟩ := h
  rcases h3 with ⟨h3, -⟩ | ⟨a, h3, h4⟩
  · cases h3
  · injection h3 with h3
    subst h3
    have := (h4 k u hk).2
    rwa [Addr.add_lit, Nat.zero_add] at this
theorem shl8 : ∀ r : Nat, r < 8 → ∃ y : UInt8, ((2 : Int) ^ min r 8 % 256) = (y.toNat : Int)
  | 0, _ => ⟨1, by decide⟩
  | 1, _ => ⟨2, by decide⟩
  | 2, _ => ⟨4, by decide⟩
  | 3, _ => ⟨8, by decide⟩
  | 4, _ => ⟨16, by decide⟩
  | 5, _ => ⟨32, by decide⟩
  | 6, _ => ⟨64, by decide⟩
  | 7, _ => ⟨128, by decide⟩
  | _ + 8, h => absurd h (by omega)
theorem OwnB.cells2 {w : World} {base : Nat} {e : TypeId} {v : Value} {l : List UInt8} (h : OwnB w base e v l) (hl : 0 < l.length) : ∃ g c cs, v = .slice (some ⟨g, 0, none⟩) l.length c ∧ CB w g e cs ∧ base ≤ g ∧ cs.length = c ∧ l.length ≤ c ∧ c ≤ maxLen ∧ cs.take l.length = bcells l := by
  rcases h.2 with ⟨rfl, h0⟩ | ⟨g, cap, cur, rfl, hb, hg, hc, hm, hcs, ht⟩
  · omega
  · rw [Nat.mul_one] at hcs ht
    exact ⟨g, cap, cur.toList, rfl, by show w.heap[g]? = _; rw [hg], hb, by rw [Array.length_toList, hcs], hc, hm, ht⟩
theorem RB.ofSet {w : World} {g c k : Nat} {e : TypeId} {cs : List Value} {l : List UInt8} {z : UInt8} (h : CB w g e (cs.set k (.int .u8 (z.toNat : Int)))) (ht : cs.take l.length = bcells l) (hcl : cs.length = c) (hc : l.length ≤ c) (hm : c ≤ maxLen) : RB w w.heap.size (some ⟨g, 0, none⟩) (l.set k z) c := by
  refine ⟨by rw [List.length_set]; exact hc, hm, .inr ⟨_, rfl, fun j u hu => ⟨h.lt, ?_⟩⟩⟩
  rw [Addr.add_lit, Nat.zero_add]
  apply h.at_
  have hj : j < l.length := by have := (List.getElem?_eq_some_iff.1 hu).1; rwa [List.length_set] at this
  rw [List.getElem?_set] at hu ⊢
  by_cases e : k = j
  · subst e
    rw [if_pos rfl, if_pos hj] at hu
    injection hu with hu
    rw [if_pos rfl, if_pos (by omega), hu]
  · rw [if_neg e] at hu ⊢
    rw [← List.getElem?_take_of_lt hj, ht, bcells_at, hu]
    rfl
theorem useN3 : useN 3 = 3 := rfl
def SerF13 (B g12 gc nb q2 cc : Nat) (M : List UInt8) (i : Nat) (v : Value) (x : World) : Prop :=
  match i with
  | 0 => v = .slice (some ⟨g12, 0, none⟩) 16 16
  | 1 => v = .slice (some ⟨gc, 0, none⟩) nb cc
  | 2 => v = .slice (some ⟨gc, 0, none⟩) nb cc
  | 3 => v = .int .i64 nb
  | 4 => v = .int .i64 q2
  | 5 => v = .slice (some ⟨gc, 0, none⟩) q2 cc
  | 6 => v = .agg (bcells M).toArray
  | 7 => ∃ g, v = .pointer (some ⟨g, 0, none⟩) ∧ B ≤ g ∧ CB x g 59 (bcells (zeros 32))
  | _ => True
theorem SerF13.kept {B g12 gc nb q2 cc : Nat} {M : List UInt8} (i : Nat) (v : Value) (x y : World) (hg : x.grownBy y none) (h : SerF13 B g12 gc nb q2 cc M i v x) : SerF13 B g12 gc nb q2 cc M i v y := by
  unfold SerF13 at *
  split at h <;> first
    | exact h
    | (obtain ⟨g, h1, h2, h3⟩ := h
       exact ⟨g, h1, h2, h3.kept hg⟩)
def SerF14 (g13 gc nb q2 cc : Nat) (S to : List UInt8) (i : Nat) (v : Value) (_ : World) : Prop :=
  match i with
  | 0 => v = .slice (some ⟨g13, 0, none⟩) 16 32
  | 1 => v = .string ⟨S.toArray⟩
  | 2 => v = .slice (some ⟨gc, 0, none⟩) nb cc
  | 3 => v = .slice (some ⟨gc, 0, none⟩) nb cc
  | 4 => v = .int .i64 nb
  | 5 => v = .int .i64 q2
  | 6 => v = .slice (some ⟨gc, q2, none⟩) 16 (cc - q2)
  | 7 => v = .string ⟨to.toArray⟩
  | 8 => v = .bool (S == to)
  | 9 => v = .bool (S == to)
  | _ => True
set_option maxRecDepth 100000 in
set_option maxHeartbeats 8000000 in
theorem walk_SealTurned (w : World) (hTB : TB w) (key : List UInt8) (hk : key.length = 16) (A : Option Addr) (l : List UInt8) (cap : Nat) (hr : RB w w.heap.size A l cap) (bit : Int) (_ : (Lit.int .i64 bit).wf = true) :
    Calls Tryd.prog 8 #[.agg (bcells key).toArray, .slice A l.length cap, .int .i64 bit] w fun e w' => e = .returned (.bool true) ∧ Below w.heap.size w w' := by
  obtain ⟨n, hn⟩ : ∃ n, l.length = n := ⟨_, rfl⟩
  rw [hn]
  have HN := Lib.hid hn
  have RW := Lib.hid hr
  have HK := Lib.hid hk
  have T0 := Lib.hid hTB
  have LK := Lib.hid (show (bcells key).length = 16 by rw [bcells_length, hk])
  have K0 := Lib.hid (CB.new w 23 (bcells key))
  have G0 := Lib.hid (grown_alloc w (.cells (bcells key).toArray 23) none)
  have HPA := Lib.hid (show ∀ a, A = some a → l = [] ∨ a.block < w.heap.size from fun a ha => hr.lt_of a ha)
  have TK0 := Lib.hid True.intro
  have hL := boxS_len key 3 0 l
  rw [hn] at hL
  clear hk hn hr hTB
  by_cases hlong : 100 < n
  · have hni : (100 : Int) < (n : Int) := by omega
    clear hlong hL
    go_enter Tryd.func8, Tryd.ntmps8
    go_wp2_with (first
      | (go_at_call 9; refine (sspeaks_any _).mono ?_; rintro e w1 ⟨rfl, g⟩; have G1 := Lib.hid (grown_trans' G0.out g); clear g))
    go_ret
    exact ⟨rfl, below_of_none G1.out⟩
  have hni : ¬ (100 : Int) < (n : Int) := by omega
  have HL := Lib.hid (show n ≤ 100 by omega)
  obtain ⟨b, hb⟩ : ∃ b, boxS key 3 0 l = b := ⟨_, rfl⟩
  rw [hb] at hL
  obtain ⟨nb, hnb⟩ : ∃ q, n + 24 = q := ⟨_, rfl⟩
  rw [hnb] at hL
  have HB := Lib.hid hb
  have HBL := Lib.hid hL
  obtain ⟨q, hql, hqk⟩ := and_low bit 16 (by decide)
  have hqk' : bits .and .i64 bit 65535 = (q : Int) := hqk
  have hql' : q < 65536 := hql
  obtain ⟨m8, hm8⟩ : ∃ m, 8 * nb = m := ⟨_, rfl⟩
  have hw8 : IntKind.i64.wrap (8 * (nb : Int)) = (m8 : Int) := by
    have h : IntKind.i64.wrap (8 * (nb : Int)) = if 9223372036854775808 ≤ (8 * (nb : Int)) % 18446744073709551616 then (8 * (nb : Int)) % 18446744073709551616 - 18446744073709551616 else (8 * (nb : Int)) % 18446744073709551616 := by
      simp [IntKind.wrap, IntKind.bits, IntKind.signed]
    rw [h]
    split <;> omega
  have hm0 : ¬ (m8 : Int) = 0 := by omega
  obtain ⟨k, hkk⟩ : ∃ k, q % m8 = k := ⟨_, rfl⟩
  have hkm : k < m8 := by rw [← hkk]; exact Nat.mod_lt _ (by omega)
  have hw9 : Int.tmod (q : Int) (m8 : Int) = (k : Int) := by rw [← hkk]; rfl
  obtain ⟨k8, hk8⟩ : ∃ j, k / 8 = j := ⟨_, rfl⟩
  have hw10 : Int.tdiv (k : Int) 8 = (k8 : Int) := by rw [← hk8]; rfl
  obtain ⟨r, hrr⟩ : ∃ r, k % 8 = r := ⟨_, rfl⟩
  have hw11 : Int.tmod (k : Int) 8 = (r : Int) := by rw [← hrr]; rfl
  have hr8 : r < 8 := by omega
  have hkn : k8 < nb := by omega
  have HR8 := Lib.hid hr8
  have hki : (k8 : Int) < (nb : Int) := by omega
  have hwu : IntKind.u64.wrap (r : Int) = (r : Int) := by rw [show IntKind.u64.wrap (r : Int) = (r : Int) % 18446744073709551616 by simp [IntKind.wrap, IntKind.bits, IntKind.signed]]; omega
  have hwk : ∀ x : Nat, x < 65536 → IntKind.i64.wrap (x : Int) = (x : Int) := by
    intro x hx
    have h : IntKind.i64.wrap (x : Int) = if 9223372036854775808 ≤ (x : Int) % 18446744073709551616 then (x : Int) % 18446744073709551616 - 18446744073709551616 else (x : Int) % 18446744073709551616 := by
      simp [IntKind.wrap, IntKind.bits, IntKind.signed]
    rw [h]
    split <;> omega
  have hwk1 := hwk k (by omega)
  have hwk2 := hwk k8 (by omega)
  have hwk3 := hwk r (by omega)
  have HKN := Lib.hid hkn
  obtain ⟨x, hbx⟩ : ∃ x, b[k8]? = some x := ⟨_, List.getElem?_eq_getElem (by omega)⟩
  have HBX := Lib.hid hbx
  have HNB := Lib.hid hnb
  obtain ⟨y, hy⟩ := shl8 r HR8.out
  obtain ⟨z, hz⟩ : ∃ z, x ^^^ y = z := ⟨_, rfl⟩
  have hxz : bits .xor .u8 (x.toNat : Int) (y.toNat : Int) = (z.toNat : Int) := by rw [← hz]; exact xor_u8 x y
  obtain ⟨c1, hc1⟩ : ∃ c, b.set k8 z = c := ⟨_, rfl⟩
  have HC1 := Lib.hid hc1
  have HCL := Lib.hid (show c1.length = nb by rw [← hc1, List.length_set, HBL.out])
  obtain ⟨q2, hq2⟩ : ∃ q, nb - 16 = q := ⟨_, rfl⟩
  obtain ⟨ah, hah⟩ : ∃ l, c1.take q2 = l := ⟨_, rfl⟩
  obtain ⟨to, hto⟩ : ∃ l, c1.drop q2 = l := ⟨_, rfl⟩
  obtain ⟨D, hD⟩ : ∃ l, deriveOf key sumL 3 = l := ⟨_, rfl⟩
  obtain ⟨M, hM⟩ : ∃ l, macOf D ah = l := ⟨_, rfl⟩
  obtain ⟨S, hS⟩ : ∃ l, M.take 16 = l := ⟨_, rfl⟩
  have HD := Lib.hid hD
  have HDL := Lib.hid (show D.length = 16 by rw [← hD, deriveOf_length])
  have LD := Lib.hid (show (bcells D).length = 16 by rw [bcells_length, HDL.out])
  have HM := Lib.hid hM
  have LM := Lib.hid (show (bcells M).length = 32 by rw [bcells_length, ← hM, macOf_length])
  have LZ := Lib.hid (show (bcells (zeros 16)).length = 16 by rw [bcells_length, zeros_length])
  have LZ32 := Lib.hid (show (bcells (zeros 32)).length = 32 by rw [bcells_length, zeros_length])
  have HMS := Lib.hid hS
  have HSL := Lib.hid (show S.length = 16 by rw [← hS, List.length_take, ← hM, macOf_length]; rfl)
  have HTAKE := Lib.hid hah
  have HDROP := Lib.hid hto
  have HAL := Lib.hid (show ah.length = q2 by rw [← hah, List.length_take, HCL.out]; omega)
  have HTL := Lib.hid (show to.length = 16 by rw [← hto, List.length_drop, HCL.out]; omega)
  have HO := Lib.hid (show openT key 3 c1 = if to = S then some (turnS key 3 (numOf (c1.take 8)) (ah.drop 8)) else none by
    have hs : sumS key 3 ah = S := by unfold sumS; rw [useN3, hD, hM, hS]
    unfold openT
    rw [HCL.out, hq2, hah, hto, hs]
    by_cases e : to = S
    · rw [if_pos e, if_pos ⟨by omega, by have := HL.out; omega, e⟩]
    · rw [if_neg e, if_neg (fun h => e h.2.2)])
  have hwq : IntKind.i64.wrap ((nb : Int) - 16) = (q2 : Int) := by
    have h : IntKind.i64.wrap ((nb : Int) - 16) = if 9223372036854775808 ≤ ((nb : Int) - 16) % 18446744073709551616 then ((nb : Int) - 16) % 18446744073709551616 - 18446744073709551616 else ((nb : Int) - 16) % 18446744073709551616 := by
      simp [IntKind.wrap, IntKind.bits, IntKind.signed]
    rw [h]
    have := HL.out
    split <;> omega
  have a1 : (q2 : Int) ≤ (nb : Int) := by omega
  have a5 : nb - q2 = 16 := by omega
  have a7 : q2 ≤ nb := by omega
  have HQ2 := Lib.hid (show q2 ≤ 124 by have := HL.out; omega)
  have HNQ := Lib.hid (show q2 + 16 = nb by omega)
  clear hwk hbx hlong hb hL hnb hql hqk hql' hkk hkm hk8 hrr hr8 hkn hm8 hz hc1 hq2 hah hto hD hM hS
  go_enter Tryd.func8, Tryd.ntmps8
  go_wp2_with (first
    | (go_at_call 9; have hx := TK0; clear hx; refine (sspeaks_any _).mono ?_; rintro e w1 ⟨rfl, g⟩; have G1 := Lib.hid (grown_trans' G0.out g); have K1 := Lib.hid (K0.out.kept g); clear g TK0; have TK1 := Lib.hid True.intro)
    | (have hx := TK1; clear hx; refine wpList_loadC (off := 0) (p := bcells key) aggKy rfl (.tmp 3) rfl K1.out (take_all LK.out) (by rw [LK.out]; omega) (by first | rfl | go_simp) ?_; clear TK1; have TK2 := Lib.hid True.intro)
    | (go_at_call 11; have hx := TK2; clear hx; refine (snewS_any key HK.out _).mono ?_; rintro e w2 ⟨rfl, s2, g⟩; obtain ⟨s, hs⟩ : ∃ s, w1.heap.size + 1 = s := ⟨_, rfl⟩; rw [hs] at s2 ⊢; have HSW := Lib.hid (show w.heap.size < s by have := G1.out.size; omega); have S2 := Lib.hid s2; have G2 := Lib.hid (grown_trans' G1.out g); have K2 := Lib.hid (K1.out.kept g); clear g s2 hs TK2; have TK3 := Lib.hid True.intro)
    | (have hx := TK3; clear hx; refine wpList_loadC (off := 0) (p := bcells key) aggKy rfl (.tmp 3) rfl K2.out (take_all LK.out) (by rw [LK.out]; omega) (by first | rfl | go_simp) ?_; clear TK3; have TK4 := Lib.hid True.intro)
    | (go_at_call 15; have hx := TK4; clear hx; refine (sealS_any _ _ _ _ _ S2.out (T0.out.grown G2.out (fun e => by cases e)) (by have := HSW.out; omega) key 3 A l n cap HK.out HN.out (RW.out.keptS G2.out) (fun a ha => (HPA.out a ha).imp id (fun q => by have := HSW.out; omega)) (by have := HL.out; omega) (by omega)).mono ?_; rintro e w3 ⟨v, rfl, o, sn, g⟩; rw [HB.out] at o; obtain ⟨A3, c3, rfl, rb, -⟩ := o.shape; rw [HBL.out]; have R3 := Lib.hid rb; have S3 := Lib.hid sn; have K3 := Lib.hid (K2.out.grown g (by have := HSW.out; omega)); have G3 := Lib.hid (none_new G2.out g (by have := HSW.out; omega)); clear o sn g rb TK4; have TK5 := Lib.hid True.intro)
    | (at_builtin; have hx := TK5; clear hx; refine wpList_appB byteT rfl (.tmp 39) (.tmp 40) rfl (OwnB.new0 w3 w3.heap.size 5 (Nat.le_refl _)) (R3.out.keptS (grown_alloc w3 (.cells #[] 5) none)) (by first | rfl | go_simp) (by first | (rw [HBL.out]; rfl) | go_simp) (by rw [HBL.out]; have := HL.out; have := HNB.out; simp; omega) (by simp) ?_; intro v4 w4 o4 g4 _ _; rw [List.nil_append] at o4; obtain ⟨gc, cc, cs, rfl, hc, hge, hcl, hcc, hcm, hct⟩ := o4.cells2 (by rw [HBL.out]; have := HNB.out; omega); rw [HBL.out] at hcc ⊢; have q4 := (show RB w4 w4.heap.size (some ⟨gc, 0, none⟩) b cc from ownB_rb o4).cell0 HBX.out; have C4 := Lib.hid hc; have HGE := Lib.hid (show w.heap.size < gc by have := HSW.out; have := S3.out.2.lt; omega); have HGS := Lib.hid (show gc ≠ s by have := S3.out.2.lt; omega); have HCS := Lib.hid hcl; have HCC := Lib.hid hcc; have HCM := Lib.hid hcm; have HCT := Lib.hid hct; have gn := none_new (grown_alloc w3 (.cells #[] 5) none) (show (w3.alloc (.cells #[] 5)).grownBy w4 (some w3.heap.size) from g4) (Nat.le_refl _); have S4 := Lib.hid (show SN w4 s key 0 1 from ⟨S3.out.1, S3.out.2.kept gn⟩); have K4 := Lib.hid (K3.out.kept gn); have G4 := Lib.hid (grown_trans' G3.out gn); clear o4 hc g4 hge hcl hcc hcm hct gn TK5; have TK6 := Lib.hid True.intro)
    | (have hx := TK6; clear hx; refine wpList_setC (off := k8) sz8 rfl (.tmp 52) (.tmp 51) rfl .u8 (z.toNat : Int) C4.out (by rw [HCS.out]; have := HCC.out; have := HKN.out; omega) (by first | rfl | go_simp) (by first | rfl | go_simp) ?_; intro w5 h5 g5; have C5 := Lib.hid (show RB w5 w5.heap.size (some ⟨gc, 0, none⟩) c1 cc by rw [← HC1.out]; exact RB.ofSet h5 (by rw [HBL.out]; have := HCT.out; rwa [HBL.out] at this) HCS.out (by rw [HBL.out]; exact HCC.out) HCM.out); have S5 := Lib.hid (show SN w5 s key 0 1 from ⟨S4.out.1, S4.out.2.grown g5 (fun e => HGS.out e.symm)⟩); have K5 := Lib.hid (K4.out.grown g5 (by have := HGE.out; omega)); have G5 := Lib.hid (none_new G4.out g5 (by have := HGE.out; omega)); clear h5 g5 q4 TK6; have TK7 := Lib.hid True.intro)
    | (have hx := TK7; clear hx; refine wpList_loadC (off := 0) (p := bcells key) aggKy rfl (.tmp 3) rfl K5.out (take_all LK.out) (by rw [LK.out]; omega) (by first | rfl | go_simp) ?_; clear TK7; have TK8 := Lib.hid True.intro)
    | (go_at_call 23; have hx := TK8; clear hx; refine (derive_any key _ sumL 3 _ (T0.out.grown G5.out (fun e => by cases e)) HK.out rfl (by decide) (by decide)).mono ?_; rintro e w6 ⟨rfl, g⟩; rw [HD.out]; have C6 := Lib.hid (C5.out.keptS g); have S6 := Lib.hid (show SN w6 s key 0 1 from ⟨S5.out.1, S5.out.2.kept g⟩); have K6 := Lib.hid (K5.out.kept g); have G6 := Lib.hid (grown_trans' G5.out g); clear g TK8; have TK9 := Lib.hid True.intro)
    | (have hx := TK9; refine wpList_allocC zeroK_run rfl rfl ?_)
    | (have hx := TK9; clear hx; refine wpList_storeC (off := 0) (p := bcells D) aggKy.hi rfl (.tmp 12) (.tmp 54) rfl (.agg (bcells D).toArray) rfl (bcells_one _) (CB.new w6 23 (bcells (zeros 16))) LD.out (by rw [LZ.out]; omega) (by first | rfl | go_simp) (by first | rfl | go_simp) ?_; intro w7 h7 g7; rw [over_all _ _ (Nat.le_of_eq (by rw [LZ.out, LD.out]))] at h7; have gs := none_new (grown_alloc w6 (.cells (bcells (zeros 16)).toArray 23) none) g7 (Nat.le_refl _); have D7 := Lib.hid h7; have C7 := Lib.hid (C6.out.keptS gs); have S7 := Lib.hid (show SN w7 s key 0 1 from ⟨S6.out.1, S6.out.2.kept gs⟩); have K7 := Lib.hid (K6.out.kept gs); have G7 := Lib.hid (grown_trans' G6.out gs); clear h7 g7 gs TK9))
  obtain ⟨g12, hg12⟩ : ∃ g, w6.heap.size = g := ⟨_, rfl⟩
  rw [hg12] at D7
  simp only [hg12]
  have T7 := Lib.hid (T0.out.grown G7.out (fun e => by cases e))
  have RA := Lib.hid (show RB w7 w7.heap.size (some ⟨gc, 0, none⟩) ah cc by rw [← HTAKE.out]; exact C7.out.head q2)
  have hcq : q2 < cc := by have := HCC.out; have := HNQ.out; omega
  have a3 : (q2 : Int) ≤ (cc : Int) := by omega
  have a2 : (nb : Int) ≤ (cc : Int) := by have := HCC.out; omega
  have a8 : nb ≤ cc := HCC.out
  have a9 : q2 ≤ cc := by omega
  have a4 : ¬ cc = q2 := by omega
  have a6 : ¬ q2 = cc := by omega
  have RT := Lib.hid (show RB w7 w7.heap.size (some ⟨gc, q2, none⟩) to (cc - q2) by
    have := C7.out.cut (k := q2) (by rw [HCL.out]; exact a7)
    rw [if_neg a4, HDROP.out, Option.map_some, Addr.add_lit, Nat.zero_add] at this
    exact this)
  clear hcq hg12
  refine region_last 8 [some 55, some 56, some 57, some 58, some 59, some 60, some 61, some 13, none] (fun x => w7.grownBy x none) (SerF13 w7.heap.size g12 gc nb q2 cc M) (fun vs x => ∃ g, vs 7 = .pointer (some ⟨g, 0, none⟩) ∧ CB x g 59 (bcells M) ∧ w7.grownBy x none) (by kernel_rfl) (by kernel_rfl) rfl (by kernel_rfl) (by kernel_rfl) (fun x y hg h => grown_trans' h hg) (fun j v x y hg _ h => SerF13.kept j v x y hg h) (grown_drew (World.grownBy.refl _ _)) ⟨⟨⟨⟨⟨⟨⟨⟨trivial, ?_⟩, ?_⟩, ?_⟩, ?_⟩, ?_⟩, ?_⟩, ?_⟩, ?_⟩ ?_ ?_ ?_
  · refine Inv.duty_plain rfl rfl (fun L vs a x hG dep up val ev out K hK => ?_)
    have ec : ∀ v, a.eval (.const v) = v := fun _ => rfl
    have e12 : a.eval (.tmp 12) = .pointer (some ⟨g12, 0, none⟩) := (out 12 (by kernel_rfl)).trans rfl
    refine Inv.wp_value (v := .slice (some ⟨g12, 0, none⟩) 16 16) ?_ (hK.out _ _ (World.grownBy.refl _ _) rfl)
    clear hG hK K dep up val ev out
    generalize a.eval = ρ at *
    (simp [execOp, go_sem, *]; done)
  · refine Inv.duty_plain rfl rfl (fun L vs a x hG dep up val ev out K hK => ?_)
    have ec : ∀ v, a.eval (.const v) = v := fun _ => rfl
    have e11 : a.eval (.tmp 11) = .slice (some ⟨gc, 0, none⟩) nb cc := (out 11 (by kernel_rfl)).trans rfl
    refine Inv.wp_value (v := .slice (some ⟨gc, 0, none⟩) nb cc) ?_ (hK.out _ _ (World.grownBy.refl _ _) rfl)
    clear hG hK K dep up val ev out
    generalize a.eval = ρ at *
    (simp [execOp, go_sem, *]; done)
  · refine Inv.duty_plain rfl rfl (fun L vs a x hG dep up val ev out K hK => ?_)
    have ec : ∀ v, a.eval (.const v) = v := fun _ => rfl
    have e11 : a.eval (.tmp 11) = .slice (some ⟨gc, 0, none⟩) nb cc := (out 11 (by kernel_rfl)).trans rfl
    refine Inv.wp_value (v := .slice (some ⟨gc, 0, none⟩) nb cc) ?_ (hK.out _ _ (World.grownBy.refl _ _) rfl)
    clear hG hK K dep up val ev out
    generalize a.eval = ρ at *
    (simp [execOp, go_sem, *]; done)
  · refine Inv.duty_plain rfl rfl (fun L vs a x hG dep up val ev out K hK => ?_)
    have ec : ∀ v, a.eval (.const v) = v := fun _ => rfl
    have e57 : a.eval (.tmp 57) = .slice (some ⟨gc, 0, none⟩) nb cc := (ev 2 57 (dep 2 (by kernel_rfl)) (by kernel_rfl)).trans (val 2 (dep 2 (by kernel_rfl)))
    refine Inv.wp_value (v := .int .i64 nb) ?_ (hK.out _ _ (World.grownBy.refl _ _) rfl)
    clear hG hK K dep up val ev out
    generalize a.eval = ρ at *
    (simp [execOp, go_sem, *]; done)
  · refine Inv.duty_plain rfl rfl (fun L vs a x hG dep up val ev out K hK => ?_)
    have ec : ∀ v, a.eval (.const v) = v := fun _ => rfl
    have e58 : a.eval (.tmp 58) = .int .i64 nb := (ev 3 58 (dep 3 (by kernel_rfl)) (by kernel_rfl)).trans (val 3 (dep 3 (by kernel_rfl)))
    refine Inv.wp_value (v := .int .i64 q2) ?_ (hK.out _ _ (World.grownBy.refl _ _) rfl)
    clear hG hK K dep up val ev out
    generalize a.eval = ρ at *
    (simp [execOp, go_sem, *]; done)
  · refine Inv.duty_plain rfl rfl (fun L vs a x hG dep up val ev out K hK => ?_)
    have ec : ∀ v, a.eval (.const v) = v := fun _ => rfl
    have e56 : a.eval (.tmp 56) = .slice (some ⟨gc, 0, none⟩) nb cc := (ev 1 56 (dep 1 (by kernel_rfl)) (by kernel_rfl)).trans (val 1 (dep 1 (by kernel_rfl)))
    have e59 : a.eval (.tmp 59) = .int .i64 q2 := (ev 4 59 (dep 4 (by kernel_rfl)) (by kernel_rfl)).trans (val 4 (dep 4 (by kernel_rfl)))
    refine Inv.wp_value (v := .slice (some ⟨gc, 0, none⟩) q2 cc) ?_ (hK.out _ _ (World.grownBy.refl _ _) rfl)
    clear hG hK K dep up val ev out
    generalize a.eval = ρ at *
    (simp [execOp, go_sem, *]; done)
  · refine Inv.duty_plain rfl rfl (fun L vs a x hG dep up val ev out K hK => ?_)
    have ef : ∀ f, a.eval (.func f) = .func (.func f) #[] #[] := fun _ => rfl
    have e55 : a.eval (.tmp 55) = .slice (some ⟨g12, 0, none⟩) 16 16 := (ev 0 55 (dep 0 (by kernel_rfl)) (by kernel_rfl)).trans (val 0 (dep 0 (by kernel_rfl)))
    have e60 : a.eval (.tmp 60) = .slice (some ⟨gc, 0, none⟩) q2 cc := (ev 5 60 (dep 5 (by kernel_rfl)) (by kernel_rfl)).trans (val 5 (dep 5 (by kernel_rfl)))
    have hgx : w7.grownBy x none := hG
    refine Inv.wp_call (by clear hG hK K dep up val ev out; generalize a.eval = ρ at *; (simp [execOp, go_sem, *]; done)) ((macSum_any 16 16 q2 cc _ _ D ah x (T7.out.grown hgx (fun e => by cases e)) HDL.out (by omega) (RB.of_CB (D7.out.kept hgx) (by rw [HDL.out]; unfold maxLen; omega) HDL.out) HAL.out (by have := HQ2.out; omega) (RA.out.keptS hgx)).mono ?_)
    rintro e w' ⟨rfl, g⟩
    rw [HM.out]
    exact ⟨_, rfl, hK.out _ _ g rfl⟩
  · refine Inv.duty_plain rfl rfl (fun L vs a x hG dep up val ev out K hK => ?_)
    exact wp_allocC zeroB32 rfl (hK.out _ _ (grown_alloc _ _ _) ⟨_, rfl, hG.size, CB.new x _ _⟩)
  · intro o ho
    injection ho with ho
    subst ho
    refine ⟨rfl, fun vs a x hG hF ev out K hK => ?_⟩
    obtain ⟨g, hv7, hgb, hcb⟩ := hF 7 (by omega)
    have e1 : a.eval (.tmp 13) = .pointer (some ⟨g, 0, none⟩) := (ev 7 13 (by omega) (by kernel_rfl)).trans hv7
    have e2 : a.eval (.tmp 61) = .agg (bcells M).toArray := (ev 6 61 (by omega) (by kernel_rfl)).trans (hF 6 (by omega))
    refine wp_storeC (d := none) (off := 0) (p := bcells M) agg32.hi rfl (.tmp 13) (.tmp 61) rfl (.agg (bcells M).toArray) rfl (bcells_one _) hcb LM.out (by rw [LZ32.out]; omega) e1 e2 ?_
    intro w' hc' hg'
    rw [over_all _ _ (Nat.le_of_eq (by rw [LZ32.out, LM.out]))] at hc'
    exact hK.out _ _ ⟨g, hv7, hc', none_new hG hg' hgb⟩
  · rintro vs vs' x h ⟨g, h1, h2, h3⟩
    exact ⟨g, (h 7 (by omega)).symm.trans h1, h2, h3⟩
  rintro vs w8 ⟨g13, hv7, hc, hg⟩
  have hg : w7.grownBy w8 none := hg
  have M8 := Lib.hid hc
  have C8 := Lib.hid (C7.out.keptS hg)
  have RT8 := Lib.hid (RT.out.keptS hg)
  have S8 := Lib.hid (show SN w8 s key 0 1 from ⟨S7.out.1, S7.out.2.kept hg⟩)
  have K8 := Lib.hid (K7.out.kept hg)
  have G8 := Lib.hid (grown_trans' G7.out hg)
  have RS8 := Lib.hid (show RB w8 w8.heap.size (some ⟨g13, 0, none⟩) S 32 by
    have h := (RB.ofCB hc (by have := LM.out; rw [bcells_length] at this; rw [this]; decide)).head 16
    have h2 : M.length = 32 := by have := LM.out; rwa [bcells_length] at this
    rw [HMS.out, h2] at h
    exact h)
  clear hc hg
  simp only [Inv.putAll, Act.put, List.setIfInBounds_toArray, List.set_cons_zero, List.set_cons_succ, Nat.zero_add, Nat.reduceAdd]
  rw [hv7]
  clear hv7
  generalize vs 0 = y0, vs 1 = y1, vs 2 = y2, vs 3 = y3, vs 4 = y4, vs 5 = y5, vs 6 = y6
  clear vs
  go_wp2
  refine Inv.region_made (n := 10) (ds := [some 62, some 63, some 64, some 65, some 66, some 67, some 68, some 69, some 70, some 14]) (fun x => w8.grownBy x none) (SerF14 g13 gc nb q2 cc S to) (by kernel_rfl) (by kernel_rfl) rfl (by kernel_rfl) (fun x y hg h => grown_trans' h hg) (fun j v x y hg _ h => h) (grown_drew (World.grownBy.refl _ _)) ⟨⟨⟨⟨⟨⟨⟨⟨⟨⟨trivial, ?_⟩, ?_⟩, ?_⟩, ?_⟩, ?_⟩, ?_⟩, ?_⟩, ?_⟩, ?_⟩, ?_⟩ ?_
  · refine Inv.duty_plain rfl rfl (fun L vs a x hG dep up val ev out K hK => ?_)
    have ec : ∀ v, a.eval (.const v) = v := fun _ => rfl
    have e13 : a.eval (.tmp 13) = .pointer (some ⟨g13, 0, none⟩) := (out 13 (by kernel_rfl)).trans rfl
    refine Inv.wp_value (v := .slice (some ⟨g13, 0, none⟩) 16 32) ?_ (hK.out _ _ (World.grownBy.refl _ _) rfl)
    clear hG hK K dep up val ev out
    generalize a.eval = ρ at *
    (simp [execOp, go_sem, *]; done)
  · refine Inv.duty_plain rfl rfl (fun L vs a x hG dep up val ev out K hK => ?_)
    have ec : ∀ v, a.eval (.const v) = v := fun _ => rfl
    have e62 : a.eval (.tmp 62) = .slice (some ⟨g13, 0, none⟩) 16 32 := (ev 0 62 (dep 0 (by kernel_rfl)) (by kernel_rfl)).trans (val 0 (dep 0 (by kernel_rfl)))
    have s1 := run_strB byteT Tryd.underlying9 (RS8.out.keptS (show w8.grownBy x none from hG))
    have s1 : (convert 32 9 (.slice (some ⟨g13, 0, none⟩) 16 32)).run Tryd.prog x = .ok (.string ⟨S.toArray⟩) x := by rw [HSL.out] at s1; exact s1
    refine Inv.wp_value (v := .string ⟨S.toArray⟩) ?_ (hK.out _ _ (World.grownBy.refl _ _) rfl)
    clear hG hK K dep up val ev out
    generalize a.eval = ρ at *
    (simp [execOp, go_sem, *]; done)
  · refine Inv.duty_plain rfl rfl (fun L vs a x hG dep up val ev out K hK => ?_)
    have ec : ∀ v, a.eval (.const v) = v := fun _ => rfl
    have e11 : a.eval (.tmp 11) = .slice (some ⟨gc, 0, none⟩) nb cc := (out 11 (by kernel_rfl)).trans rfl
    refine Inv.wp_value (v := .slice (some ⟨gc, 0, none⟩) nb cc) ?_ (hK.out _ _ (World.grownBy.refl _ _) rfl)
    clear hG hK K dep up val ev out
    generalize a.eval = ρ at *
    (simp [execOp, go_sem, *]; done)
  · refine Inv.duty_plain rfl rfl (fun L vs a x hG dep up val ev out K hK => ?_)
    have ec : ∀ v, a.eval (.const v) = v := fun _ => rfl
    have e11 : a.eval (.tmp 11) = .slice (some ⟨gc, 0, none⟩) nb cc := (out 11 (by kernel_rfl)).trans rfl
    refine Inv.wp_value (v := .slice (some ⟨gc, 0, none⟩) nb cc) ?_ (hK.out _ _ (World.grownBy.refl _ _) rfl)
    clear hG hK K dep up val ev out
    generalize a.eval = ρ at *
    (simp [execOp, go_sem, *]; done)
  · refine Inv.duty_plain rfl rfl (fun L vs a x hG dep up val ev out K hK => ?_)
    have ec : ∀ v, a.eval (.const v) = v := fun _ => rfl
    have e65 : a.eval (.tmp 65) = .slice (some ⟨gc, 0, none⟩) nb cc := (ev 3 65 (dep 3 (by kernel_rfl)) (by kernel_rfl)).trans (val 3 (dep 3 (by kernel_rfl)))
    refine Inv.wp_value (v := .int .i64 nb) ?_ (hK.out _ _ (World.grownBy.refl _ _) rfl)
    clear hG hK K dep up val ev out
    generalize a.eval = ρ at *
    (simp [execOp, go_sem, *]; done)
  · refine Inv.duty_plain rfl rfl (fun L vs a x hG dep up val ev out K hK => ?_)
    have ec : ∀ v, a.eval (.const v) = v := fun _ => rfl
    have e66 : a.eval (.tmp 66) = .int .i64 nb := (ev 4 66 (dep 4 (by kernel_rfl)) (by kernel_rfl)).trans (val 4 (dep 4 (by kernel_rfl)))
    refine Inv.wp_value (v := .int .i64 q2) ?_ (hK.out _ _ (World.grownBy.refl _ _) rfl)
    clear hG hK K dep up val ev out
    generalize a.eval = ρ at *
    (simp [execOp, go_sem, *]; done)
  · refine Inv.duty_plain rfl rfl (fun L vs a x hG dep up val ev out K hK => ?_)
    have ec : ∀ v, a.eval (.const v) = v := fun _ => rfl
    have e64 : a.eval (.tmp 64) = .slice (some ⟨gc, 0, none⟩) nb cc := (ev 2 64 (dep 2 (by kernel_rfl)) (by kernel_rfl)).trans (val 2 (dep 2 (by kernel_rfl)))
    have e67 : a.eval (.tmp 67) = .int .i64 q2 := (ev 5 67 (dep 5 (by kernel_rfl)) (by kernel_rfl)).trans (val 5 (dep 5 (by kernel_rfl)))
    refine Inv.wp_value (v := .slice (some ⟨gc, q2, none⟩) 16 (cc - q2)) ?_ (hK.out _ _ (World.grownBy.refl _ _) rfl)
    clear hG hK K dep up val ev out
    generalize a.eval = ρ at *
    (simp [execOp, go_sem, *]; done)
  · refine Inv.duty_plain rfl rfl (fun L vs a x hG dep up val ev out K hK => ?_)
    have ec : ∀ v, a.eval (.const v) = v := fun _ => rfl
    have e68 : a.eval (.tmp 68) = .slice (some ⟨gc, q2, none⟩) 16 (cc - q2) := (ev 6 68 (dep 6 (by kernel_rfl)) (by kernel_rfl)).trans (val 6 (dep 6 (by kernel_rfl)))
    have s1 := run_strB byteT Tryd.underlying9 (RT8.out.keptS (show w8.grownBy x none from hG))
    have s1 : (convert 32 9 (.slice (some ⟨gc, q2, none⟩) 16 (cc - q2))).run Tryd.prog x = .ok (.string ⟨to.toArray⟩) x := by rw [HTL.out] at s1; exact s1
    refine Inv.wp_value (v := .string ⟨to.toArray⟩) ?_ (hK.out _ _ (World.grownBy.refl _ _) rfl)
    clear hG hK K dep up val ev out
    generalize a.eval = ρ at *
    (simp [execOp, go_sem, *]; done)
  · refine Inv.duty_plain rfl rfl (fun L vs a x hG dep up val ev out K hK => ?_)
    have ec : ∀ v, a.eval (.const v) = v := fun _ => rfl
    have e63 : a.eval (.tmp 63) = .string ⟨S.toArray⟩ := (ev 1 63 (dep 1 (by kernel_rfl)) (by kernel_rfl)).trans (val 1 (dep 1 (by kernel_rfl)))
    have e69 : a.eval (.tmp 69) = .string ⟨to.toArray⟩ := (ev 7 69 (dep 7 (by kernel_rfl)) (by kernel_rfl)).trans (val 7 (dep 7 (by kernel_rfl)))
    refine Inv.wp_value (v := .bool (S == to)) ?_ (hK.out _ _ (World.grownBy.refl _ _) rfl)
    clear hG hK K dep up val ev out
    generalize a.eval = ρ at *
    (simp [execOp, go_sem, *]; done)
  · refine Inv.duty_plain rfl rfl (fun L vs a x hG dep up val ev out K hK => ?_)
    have ec : ∀ v, a.eval (.const v) = v := fun _ => rfl
    have e70 : a.eval (.tmp 70) = .bool (S == to) := (ev 8 70 (dep 8 (by kernel_rfl)) (by kernel_rfl)).trans (val 8 (dep 8 (by kernel_rfl)))
    refine Inv.wp_value (v := .bool (S == to)) ?_ (hK.out _ _ (World.grownBy.refl _ _) rfl)
    clear hG hK K dep up val ev out
    generalize a.eval = ρ at *
    (simp [execOp, go_sem, *]; done)
  intro vs w9 hG hv
  have hG : w8.grownBy w9 none := hG
  have v9 : vs 9 = .bool (S == to) := hv 9 (by omega)
  have C9 := Lib.hid (C8.out.keptS hG)
  have S9 := Lib.hid (show SN w9 s key 0 1 from ⟨S8.out.1, S8.out.2.kept hG⟩)
  have K9 := Lib.hid (K8.out.kept hG)
  have G9 := Lib.hid (grown_trans' G8.out hG)
  clear hG hv
  simp only [Inv.putAll, Act.put, List.setIfInBounds_toArray, List.set_cons_zero, List.set_cons_succ, Nat.zero_add, Nat.reduceAdd]
  rw [v9]
  clear v9
  generalize vs 0 = z0, vs 1 = z1, vs 2 = z2, vs 3 = z3, vs 4 = z4, vs 5 = z5, vs 6 = z6, vs 7 = z7, vs 8 = z8
  clear vs
  have TKx := Lib.hid True.intro
  by_cases hts : to = S
  · have hst : (S == to) = true := by simp [hts]
    have HO2 := Lib.hid (show openT key 3 c1 = some (turnS key 3 (numOf (c1.take 8)) (ah.drop 8)) by rw [HO.out, if_pos hts])
    rw [hst]
    clear hts hst
    go_wp2_with (first
      | (have hx := TKx; clear hx; refine wpList_loadC (off := 0) (p := bcells key) aggKy rfl (.tmp 3) rfl K9.out (take_all LK.out) (by rw [LK.out]; omega) (by first | rfl | go_simp) ?_)
      | (go_at_call 18; refine (openSN_any _ _ _ _ _ S9.out (T0.out.grown G9.out (fun e => by cases e)) key 3 _ c1 nb cc HK.out HCL.out C9.out).mono ?_; rw [HO2.out]; rintro e w10 ⟨g, Ap, cp, rfl, -⟩; have G10 := Lib.hid (grown_trans' G9.out g); clear g))
    go_ret
    exact ⟨rfl, below_of_none G10.out⟩
  · have hst : (S == to) = false := beq_false_of_ne (fun e => hts e.symm)
    have HO2 := Lib.hid (show openT key 3 c1 = none by rw [HO.out, if_neg hts])
    rw [hst]
    clear hts hst
    go_wp2_with (first
      | (have hx := TKx; clear hx; refine wpList_loadC (off := 0) (p := bcells key) aggKy rfl (.tmp 3) rfl K9.out (take_all LK.out) (by rw [LK.out]; omega) (by first | rfl | go_simp) ?_)
      | (go_at_call 18; refine (openSN_any _ _ _ _ _ S9.out (T0.out.grown G9.out (fun e => by cases e)) key 3 _ c1 nb cc HK.out HCL.out C9.out).mono ?_; rw [HO2.out]; rintro e w10 ⟨g, rfl⟩; have G10 := Lib.hid (grown_trans' G9.out g); clear g))
    go_ret
    exact ⟨rfl, below_of_none G10.out⟩
end Go.Proofs.YtaanhancjmigdaaDoor
