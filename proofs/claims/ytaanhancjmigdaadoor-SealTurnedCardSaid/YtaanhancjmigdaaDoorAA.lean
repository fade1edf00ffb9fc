/- The walk of addKey. -/
import Derived.Test.YtaanhancjmigdaaDoorSea
import Derived.Test.YtaanhancjmigdaaDoorBlw
import Derived.Test.YtaanhancjmigdaaDoorProg
import Derived.StillTailTactics
namespace Go.Proofs.YtaanhancjmigdaaDoor
open Go.RowKit

/-- AddRoundKey: round r, of a cipher that holds K. -/
def addKeyOf (K l : List UInt8) (r : Nat) : List UInt8 := (List.range 16).map fun i => l.getD i 0 ^^^ K.getD (256 + 16 * r + i) 0
theorem addKeyOf_length (K l : List UInt8) (r : Nat) : (addKeyOf K l r).length = 16 := by simp [addKeyOf]

theorem arr16 : ArrT Tryd.prog 22 5 16 := ⟨Tryd.underlying22, by kernel_rfl⟩

set_option maxRecDepth 100000 in
set_option maxHeartbeats 1000000 in
theorem addKey_any (gC : Nat) (K l : List UInt8) (r : Nat) (w : World) (hK : BB w gC 110 K) (hKl : K.length = 432) (hl : l.length = 16) (hr : r ≤ 10) :
    Calls Tryd.prog 85 #[.pointer (some ⟨gC, 0, none⟩), .agg (bcells l).toArray, .int .i64 (r : Int)] w fun e w' => e = .returned (.agg (bcells (addKeyOf K l r)).toArray) ∧ Below w.heap.size w w' := by
  have hgC := hK.lt
  have HK := Lib.hid hK
  have HKL := Lib.hid hKl
  have HL := Lib.hid hl
  clear hK hKl hl
  go_enter Tryd.func85, Tryd.ntmps85
  go_wp2
  go_loopw [7, 8] (fun _ i wr => ∃ k : Nat, i = .int .i64 k ∧ k ≤ 16 ∧ BB wr w.heap.size 22 (mix (addKeyOf K l r) l k) ∧ Below w.heap.size w wr ∧ BB wr (w.heap.size + 1) 22 (List.replicate 16 0)) (fun _ i _ => 16 - (intOf i).toNat)
  case atStart => exact ⟨0, rfl, by omega, by rw [mix_zero]; exact (BB.new w _ l).alloc _, ((Below.refl _ _).alloc (Nat.le_refl _) _).alloc (by simp) _, heap_alloc2_new _ _ _⟩
  case round =>
    obtain ⟨k, rfl, hk, hB, hbel, hR⟩ := hrel
    by_cases hlt : k < 16
    · obtain ⟨a, ha⟩ : ∃ a, a = r * 4 := ⟨_, rfl⟩
      obtain ⟨b, hb⟩ : ∃ b, b = k / 4 := ⟨_, rfl⟩
      obtain ⟨q, hq⟩ : ∃ q, q = a + b := ⟨_, rfl⟩
      obtain ⟨m, hm⟩ : ∃ m, m = k % 4 := ⟨_, rfl⟩
      obtain ⟨u1, hu1⟩ : ∃ u, l[k]? = some u := ⟨_, List.getElem?_eq_getElem (by rw [HL.out]; exact hlt)⟩
      obtain ⟨u2, hu2⟩ : ∃ u, K[256 + q * 4 + m]? = some u := ⟨_, List.getElem?_eq_getElem (by rw [HKL.out]; omega)⟩
      have hll : (addKeyOf K l r).length = l.length := by rw [addKeyOf_length, HL.out]
      have c1 := hB.at_ (i := k) (u := u1) (by rw [mix_get _ _ hll _ _ (Nat.le_refl _)]; exact hu1)
      have c2 := (HK.out.below hbel hgC).at_ hu2
      have f1 := hB.free k
      have hki : (k : Int) < 16 := by omega
      have w1 : IntKind.i64.wrap ((r : Int) * 4) = (a : Int) := by rw [IntKind.wrap_i64]; omega
      have w2 : IntKind.i64.wrap ((k : Int) / 4) = (b : Int) := by rw [IntKind.wrap_i64]; omega
      have w3 : IntKind.i64.wrap ((a : Int) + (b : Int)) = (q : Int) := by rw [IntKind.wrap_i64]; omega
      have w4 : (k : Int).tmod 4 = (m : Int) := by rw [Int.tmod_eq_emod_of_nonneg (by omega)]; omega
      have b1 : (q : Int) < 44 := by omega
      have b2 : (m : Int) < 4 := by omega
      have hx := xor_u8 u1 u2
      have hak : (addKeyOf K l r)[k]? = some (u1 ^^^ u2) := by
        have e : 256 + 16 * r + k = 256 + q * 4 + m := by omega
        rw [addKeyOf, List.getElem?_map, List.getElem?_range hlt]
        simp only [Option.map_some, e, List.getD, hu1, hu2, Option.getD_some]
      have HN := Lib.hid (fun x hx => (mix_set (addKeyOf K l r) l hll k _ hak) ▸ hB.drew.set_ k (u1 ^^^ u2) x hx)
      have HBEL := Lib.hid hbel
      clear ha hb hq hm hak hB hbel hu1 hu2 hll
      go_wp2
      go_still_tail 18, (by kernel_rfl)
      clear w1 w2 w3 w4
      change wpList _ _ _ _ _ wr.drew
      go_wp2
      go_roundw
      case rel => exact ⟨k + 1, by go_num, by omega, HN.out _ rfl, (HBEL.out.drew.setCell (Nat.le_refl _) _), hR.drew.far (by simp) _⟩
      case measure => simp [intOf]; omega
    · have hk16 : k = 16 := by omega
      have hm := mix_all (addKeyOf K l r) l (k := k) (by rw [HL.out]; omega) (by rw [addKeyOf_length]; omega)
      rw [hm] at hB
      have HB := Lib.hid hB
      have HBEL := Lib.hid hbel
      have HR := Lib.hid hR
      clear hB hbel hm hR
      have hal := addKeyOf_length K l r
      have HAL := Lib.hid hal
      clear hal
      go_wp2_with (first
        | refine wpList_loadB arr16 rfl (.tmp 4) rfl HB.out HAL.out rfl ?_
        | (refine wpList_storeB arr16 rfl (.tmp 6) (.tmp 30) rfl HR.out rfl HAL.out rfl rfl ?_; intro w2 h2 hg2))
      exact bodyPost_ret (results_B arr16 rfl _ h2 HAL.out rfl) rfl ⟨rfl, HBEL.out.trans (below_of_grown hg2 (Nat.le_succ _) HBEL.out.size)⟩
end Go.Proofs.YtaanhancjmigdaaDoor
namespace Go.Proofs.YtaanhancjmigdaaDoor
open Go.RowKit

def dbl (b : UInt8) : UInt8 := (b <<< 1) ^^^ ((b >>> 7) * 27)
def mixd (a b c d : UInt8) : UInt8 := dbl (a ^^^ b) ^^^ b ^^^ c ^^^ d
def rotl (b : UInt8) (k : Nat) : UInt8 := (b <<< UInt8.ofNat k) ||| (b >>> UInt8.ofNat (8 - k))
def mixB (b : UInt8) : UInt8 := b ^^^ 99 ^^^ rotl b 1 ^^^ rotl b 2 ^^^ rotl b 3 ^^^ rotl b 4

theorem forall_u8 {p : UInt8 → Prop} (h : ∀ n, n < 256 → p (UInt8.ofNat n)) (b : UInt8) : p b := by
  have := h b.toNat b.toNat_lt
  rwa [UInt8.ofNat_toNat] at this

theorem dbl_bits (b : UInt8) : bits .xor .u8 ((b.toNat : Int) * 2 % 256) ((b.toNat : Int) / 128 * 27) = ((dbl b).toNat : Int) :=
  forall_u8 (p := fun b => bits .xor .u8 ((b.toNat : Int) * 2 % 256) ((b.toNat : Int) / 128 * 27) = ((dbl b).toNat : Int)) (by decide +kernel) b

theorem double_any (b : UInt8) (w : World) : Calls Tryd.prog 82 #[.int .u8 (b.toNat : Int)] w fun e w' => e = .returned (.int .u8 ((dbl b).toNat : Int)) ∧ w = w' := by
  have hb := b.toNat_lt
  have hx := dbl_bits b
  go_enter Tryd.func82, Tryd.ntmps82
  go_wp2
  go_ret
  exact ⟨rfl, rfl⟩

theorem mixed_any (a b c d : UInt8) (w : World) : Calls Tryd.prog 97 #[.int .u8 (a.toNat : Int), .int .u8 (b.toNat : Int), .int .u8 (c.toNat : Int), .int .u8 (d.toNat : Int)] w fun e w' => e = .returned (.int .u8 ((mixd a b c d).toNat : Int)) ∧ w = w' := by
  obtain ⟨x, hx⟩ : ∃ x, x = a ^^^ b := ⟨_, rfl⟩
  obtain ⟨y, hy⟩ : ∃ y, y = dbl x := ⟨_, rfl⟩
  obtain ⟨z1, hz1⟩ : ∃ z, z = y ^^^ b := ⟨_, rfl⟩
  obtain ⟨z2, hz2⟩ : ∃ z, z = z1 ^^^ c := ⟨_, rfl⟩
  obtain ⟨z3, hz3⟩ : ∃ z, z = z2 ^^^ d := ⟨_, rfl⟩
  have h1 := xor_u8 a b
  have h2 := xor_u8 y b
  have h3 := xor_u8 z1 c
  have h4 := xor_u8 z2 d
  rw [← hx] at h1
  rw [← hz1] at h2
  rw [← hz2] at h3
  rw [← hz3] at h4
  have hd := fun W => double_any x W
  rw [← hy] at hd
  have HD := Lib.hid hd
  have hr : mixd a b c d = z3 := by rw [hz3, hz2, hz1, hy, hx]; rfl
  rw [hr]
  clear hr hd hx hy hz1 hz2 hz3
  go_enter Tryd.func97, Tryd.ntmps97
  go_wp2_with (go_at_call 82; refine (HD.out _).mono ?_; rintro e w1 ⟨rfl, rfl⟩)
  go_ret
  exact ⟨rfl, rfl⟩

theorem rot1_any (b : UInt8) (w : World) : Calls Tryd.prog 96 #[.int .u8 (b.toNat : Int), .int .i64 1] w fun e w' => e = .returned (.int .u8 ((rotl b 1).toNat : Int)) ∧ w = w' := by
  have hb := b.toNat_lt
  have ha : bits .and .u64 1 7 = 1 := by decide +kernel
  have hx : bits .or .u8 ((b.toNat : Int) * 2 % 256) ((b.toNat : Int) / 128) = ((rotl b 1).toNat : Int) :=
    forall_u8 (p := fun b => bits .or .u8 ((b.toNat : Int) * 2 % 256) ((b.toNat : Int) / 128) = ((rotl b 1).toNat : Int)) (by decide +kernel) b
  go_enter Tryd.func96, Tryd.ntmps96
  go_wp2
  go_ret
  exact ⟨rfl, rfl⟩
theorem rot2_any (b : UInt8) (w : World) : Calls Tryd.prog 96 #[.int .u8 (b.toNat : Int), .int .i64 2] w fun e w' => e = .returned (.int .u8 ((rotl b 2).toNat : Int)) ∧ w = w' := by
  have hb := b.toNat_lt
  have ha : bits .and .u64 2 7 = 2 := by decide +kernel
  have hx : bits .or .u8 ((b.toNat : Int) * 4 % 256) ((b.toNat : Int) / 64) = ((rotl b 2).toNat : Int) :=
    forall_u8 (p := fun b => bits .or .u8 ((b.toNat : Int) * 4 % 256) ((b.toNat : Int) / 64) = ((rotl b 2).toNat : Int)) (by decide +kernel) b
  go_enter Tryd.func96, Tryd.ntmps96
  go_wp2
  go_ret
  exact ⟨rfl, rfl⟩
theorem rot3_any (b : UInt8) (w : World) : Calls Tryd.prog 96 #[.int .u8 (b.toNat : Int), .int .i64 3] w fun e w' => e = .returned (.int .u8 ((rotl b 3).toNat : Int)) ∧ w = w' := by
  have hb := b.toNat_lt
  have ha : bits .and .u64 3 7 = 3 := by decide +kernel
  have hx : bits .or .u8 ((b.toNat : Int) * 8 % 256) ((b.toNat : Int) / 32) = ((rotl b 3).toNat : Int) :=
    forall_u8 (p := fun b => bits .or .u8 ((b.toNat : Int) * 8 % 256) ((b.toNat : Int) / 32) = ((rotl b 3).toNat : Int)) (by decide +kernel) b
  go_enter Tryd.func96, Tryd.ntmps96
  go_wp2
  go_ret
  exact ⟨rfl, rfl⟩
theorem rot4_any (b : UInt8) (w : World) : Calls Tryd.prog 96 #[.int .u8 (b.toNat : Int), .int .i64 4] w fun e w' => e = .returned (.int .u8 ((rotl b 4).toNat : Int)) ∧ w = w' := by
  have hb := b.toNat_lt
  have ha : bits .and .u64 4 7 = 4 := by decide +kernel
  have hx : bits .or .u8 ((b.toNat : Int) * 16 % 256) ((b.toNat : Int) / 16) = ((rotl b 4).toNat : Int) :=
    forall_u8 (p := fun b => bits .or .u8 ((b.toNat : Int) * 16 % 256) ((b.toNat : Int) / 16) = ((rotl b 4).toNat : Int)) (by decide +kernel) b
  go_enter Tryd.func96, Tryd.ntmps96
  go_wp2
  go_ret
  exact ⟨rfl, rfl⟩

/-- What mixBits has behind n - 1 rounds. -/
def mixBn (b : UInt8) : Nat → UInt8
  | 0 => b ^^^ 99
  | n + 1 => mixBn b n ^^^ rotl b (n + 1)
theorem mixBits_any (b : UInt8) (w : World) : Calls Tryd.prog 83 #[.int .u8 (b.toNat : Int)] w fun e w' => e = .returned (.int .u8 ((mixB b).toNat : Int)) ∧ w = w' := by
  have h0 := xor_u8 b 99
  rw [show b ^^^ 99 = mixBn b 0 from rfl] at h0
  have hr : mixB b = mixBn b 4 := rfl
  rw [hr]
  clear hr
  have h0' : bits .xor .u8 (b.toNat : Int) 99 = ((mixBn b 0).toNat : Int) := h0
  clear h0
  go_enter Tryd.func83, Tryd.ntmps83
  go_wp2
  clear h0'
  go_loop [3, 4] (fun x i => ∃ k : Nat, k ≤ 4 ∧ i = .int .i64 ((k : Int) + 1) ∧ x = .int .u8 ((mixBn b k).toNat : Int)) (fun _ i => 5 - (intOf i).toNat)
  case atStart => exact ⟨0, by omega, rfl, rfl⟩
  case round =>
    obtain ⟨k, hk, rfl, rfl⟩ := hrel
    by_cases hlt : k < 4
    · have hx := xor_u8 (mixBn b k) (rotl b (k + 1))
      rw [show mixBn b k ^^^ rotl b (k + 1) = mixBn b (k + 1) from rfl] at hx
      have hc : ∀ W, Calls Tryd.prog 96 #[.int .u8 (b.toNat : Int), .int .i64 ((k : Int) + 1)] W fun e w' => e = .returned (.int .u8 ((rotl b (k + 1)).toNat : Int)) ∧ W = w' := by
        intro W
        rcases (by omega : k = 0 ∨ k = 1 ∨ k = 2 ∨ k = 3) with rfl | rfl | rfl | rfl
        · exact rot1_any b W
        · exact rot2_any b W
        · exact rot3_any b W
        · exact rot4_any b W
      have HC := Lib.hid hc
      clear hc
      obtain ⟨y, hy⟩ : ∃ y, y = mixBn b (k + 1) := ⟨_, rfl⟩
      obtain ⟨z, hz⟩ : ∃ z, z = rotl b (k + 1) := ⟨_, rfl⟩
      obtain ⟨v, hv⟩ : ∃ v, v = mixBn b k := ⟨_, rfl⟩
      rw [← hy, ← hz, ← hv] at hx
      rw [← hz] at HC
      rw [← hv]
      have HY := Lib.hid hy
      clear hz hv hy
      go_wp2_with (go_at_call 96; refine (HC.out _).mono ?_; rintro e w1 ⟨rfl, rfl⟩)
      go_round
      case rel => exact ⟨k + 1, by omega, by go_num, by rw [HY.out]⟩
      case measure => simp [intOf]; omega
    · obtain rfl : k = 4 := by omega
      go_wp2
      go_ret
      exact ⟨rfl, rfl⟩
end Go.Proofs.YtaanhancjmigdaaDoor
namespace Go.Proofs.YtaanhancjmigdaaDoor
open Go.RowKit

/-- 'a[i]' of an array by value. -/
theorem run_indexB {P : Program} {t e : TypeId} {n : Nat} (hT : ArrT P t e n) (he : (P.info? e).map (·.size) = some 1) (hu8 : P.underlying e = some (.int .u8)) {l : List UInt8} (hl : l.length = n) {k : Nat} {u : UInt8} (hu : l[k]? = some u) (w : World) :
    (Instr.index t (.agg (bcells l).toArray) (.int .i64 (k : Int))).run P w = .ok (.int .u8 (u.toNat : Int)) w := by
  have hk : k < l.length := (List.getElem?_eq_some_iff.1 hu).1
  have hn : (0 : Int) ≤ (k : Int) ∧ (k : Int) < (n : Int) := by omega
  have hkn : k < n := by omega
  have hag : ∀ w, (isAgg e).run P w = .ok false w := by
    intro w
    unfold isAgg
    rw [Sem.run_bind, run_underlying hu8 w]
    rfl
  have hc : (bcells l)[k]? = some (.int .u8 (u.toNat : Int)) := by rw [bcells_at, hu]; rfl
  cases hq : P.info? e with
  | none => simp [hq] at he
  | some i =>
    have hi : i.size = 1 := by simpa [hq] using he
    simp [Instr.index, run_underlying hT.ht, asIntOf, hkn, go_sem, sizeOf, typeInfo, hq, hi, hag, hc]

theorem u8Size : (Tryd.prog.info? 5).map (·.size) = some 1 := by kernel_rfl

def subOf (K l : List UInt8) : List UInt8 := l.map fun b => K.getD b.toNat 0
theorem subOf_length (K l : List UInt8) : (subOf K l).length = l.length := by simp [subOf]

set_option maxHeartbeats 1000000 in
theorem subBytes_any (gC : Nat) (K l : List UInt8) (w : World) (hK : BB w gC 110 K) (hKl : K.length = 432) (hl : l.length = 16) :
    Calls Tryd.prog 88 #[.pointer (some ⟨gC, 0, none⟩), .agg (bcells l).toArray] w fun e w' => e = .returned (.agg (bcells (subOf K l)).toArray) ∧ Below w.heap.size w w' := by
  have hgC := hK.lt
  have HK := Lib.hid hK
  have HKL := Lib.hid hKl
  have HL := Lib.hid hl
  have hb0 := BB.new w 22 l
  have HB0 := Lib.hid (hb0.alloc (.cells (bcells (List.replicate 16 0)).toArray 22))
  clear hK hKl hl hb0
  go_enter Tryd.func88, Tryd.ntmps88
  go_wp2_with (refine wpList_loadB arr16 rfl (.tmp 3) rfl HB0.out HL.out rfl ?_)
  go_loopw [8] (fun i wr => ∃ k : Nat, i = .int .i64 k ∧ k ≤ 16 ∧ BB wr w.heap.size 22 (mix (subOf K l) l k) ∧ Below w.heap.size w wr ∧ BB wr (w.heap.size + 1) 22 (List.replicate 16 0)) (fun i _ => 16 - (intOf i).toNat)
  case atStart => exact ⟨0, rfl, by omega, by rw [mix_zero]; exact (BB.new w _ l).alloc _, ((Below.refl _ _).alloc (Nat.le_refl _) _).alloc (by simp) _, heap_alloc2_new _ _ _⟩
  case round =>
    obtain ⟨k, rfl, hk, hB, hbel, hR⟩ := hrel
    have hll : (subOf K l).length = l.length := subOf_length K l
    by_cases hlt : k < 16
    · obtain ⟨u1, hu1⟩ : ∃ u, l[k]? = some u := ⟨_, List.getElem?_eq_getElem (by rw [HL.out]; exact hlt)⟩
      have hu1l := u1.toNat_lt
      obtain ⟨u2, hu2⟩ : ∃ u, K[u1.toNat]? = some u := ⟨_, List.getElem?_eq_getElem (by rw [HKL.out]; omega)⟩
      have hix := run_indexB arr16 u8Size Tryd.underlying5 HL.out hu1
      have c1 := hB.at_ (i := k) (u := u1) (by rw [mix_get _ _ hll _ _ (Nat.le_refl _)]; exact hu1)
      have c2 := (HK.out.below hbel hgC).at_ hu2
      have f1 := hB.free k
      have hki : (k : Int) < 16 := by omega
      have b1 : (u1.toNat : Int) < 256 := by omega
      have hak : (subOf K l)[k]? = some u2 := by
        rw [subOf, List.getElem?_map, hu1]
        simp only [Option.map_some, List.getD, hu2, Option.getD_some]
      have HN := Lib.hid (fun x hx => (mix_set (subOf K l) l hll k _ hak) ▸ hB.set_ k u2 x hx)
      have HBEL := Lib.hid hbel
      have HR := Lib.hid hR
      clear hak hB hbel hu1 hu2 hll hR
      generalize u1.toNat = n1 at *
      generalize u2.toNat = n2 at *
      go_wp2
      go_roundw
      case rel => exact ⟨k + 1, by go_num, by omega, HN.out _ rfl, (HBEL.out.setCell (Nat.le_refl _) _), HR.out.far (by simp) _⟩
      case measure => simp [intOf]; omega
    · have hm := mix_all (subOf K l) l (k := k) (by rw [HL.out]; omega) (by rw [hll, HL.out]; omega)
      rw [hm] at hB
      have HB := Lib.hid hB
      have HBEL := Lib.hid hbel
      have HR := Lib.hid hR
      have hal : (subOf K l).length = 16 := by rw [hll, HL.out]
      have HAL := Lib.hid hal
      clear hB hbel hm hR hal hll
      go_wp2_with (first
        | refine wpList_loadB arr16 rfl (.tmp 3) rfl HB.out HAL.out rfl ?_
        | (refine wpList_storeB arr16 rfl (.tmp 4) (.tmp 21) rfl HR.out rfl HAL.out rfl rfl ?_; intro w2 h2 hg2))
      exact bodyPost_ret (results_B arr16 rfl _ h2 HAL.out rfl) rfl ⟨rfl, HBEL.out.trans (below_of_grown hg2 (Nat.le_succ _) HBEL.out.size)⟩

theorem heap_alloc_at2 (w : World) (A B C : Obj) : (((w.alloc A).alloc B).alloc C).heap[w.heap.size + 2]? = some C := by
  have := heap_alloc_new ((w.alloc A).alloc B) C
  simpa using this

def shiftOf (l : List UInt8) : List UInt8 := (List.range 16).map fun i => l.getD ((i + i % 4 * 4) % 16) 0
theorem shiftOf_length (l : List UInt8) : (shiftOf l).length = 16 := by simp [shiftOf]

set_option maxHeartbeats 1000000 in
theorem shiftRows_any (l : List UInt8) (w : World) (hl : l.length = 16) :
    Calls Tryd.prog 87 #[.agg (bcells l).toArray] w fun e w' => e = .returned (.agg (bcells (shiftOf l)).toArray) ∧ Below w.heap.size w w' := by
  have HL := Lib.hid hl
  clear hl
  go_enter Tryd.func87, Tryd.ntmps87
  go_wp2
  go_loopw [6] (fun i wr => ∃ k : Nat, i = .int .i64 k ∧ k ≤ 16 ∧ BB wr w.heap.size 22 l ∧ BB wr (w.heap.size + 2) 22 (mix (shiftOf l) (List.replicate 16 0) k) ∧ Below w.heap.size w wr ∧ BB wr (w.heap.size + 1) 22 (List.replicate 16 0)) (fun i _ => 16 - (intOf i).toNat)
  case atStart => exact ⟨0, rfl, by omega, ((BB.new w _ l).alloc _).alloc _, by rw [mix_zero]; exact (heap_alloc_at2 _ _ _ _), (((Below.refl _ _).alloc (Nat.le_refl _) _).alloc (by simp) _).alloc (by simp; omega) _, (Below.heap_alloc _ _ _ (by simp)).trans (heap_alloc2_new _ _ _)⟩
  case round =>
    obtain ⟨k, rfl, hk, hB, hO, hbel, hR⟩ := hrel
    have hll : (shiftOf l).length = (List.replicate 16 (0 : UInt8)).length := by rw [shiftOf_length]; rfl
    by_cases hlt : k < 16
    · obtain ⟨r, hr⟩ : ∃ r, r = k % 4 := ⟨_, rfl⟩
      obtain ⟨m, hm⟩ : ∃ m, m = (k + r * 4) % 16 := ⟨_, rfl⟩
      obtain ⟨u1, hu1⟩ : ∃ u, l[m]? = some u := ⟨_, List.getElem?_eq_getElem (by rw [HL.out]; omega)⟩
      have c1 := hB.at_ hu1
      have c2 := hO.at_ (i := k) (u := 0) (by rw [mix_get _ _ hll _ _ (Nat.le_refl _), List.getElem?_replicate, if_pos hlt])
      have f1 := hO.free k
      have hki : (k : Int) < 16 := by omega
      have w4 : (k : Int) % 4 = (r : Int) := by omega
      have w5 : ((k : Int) + (r : Int) * 4) % 16 = (m : Int) := by omega
      have b1 : (m : Int) < 16 := by omega
      have b2 : (r : Int) < 4 := by omega
      have hak : (shiftOf l)[k]? = some u1 := by
        rw [shiftOf, List.getElem?_map, List.getElem?_range hlt]
        simp only [Option.map_some, List.getD]
        rw [← hr, ← hm, hu1]
        rfl
      have HN := Lib.hid (fun x hx => (mix_set (shiftOf l) _ hll k _ hak) ▸ hO.set_ k u1 x hx)
      have HBEL := Lib.hid hbel
      have HB := Lib.hid hB
      have HR := Lib.hid hR
      clear hak hB hbel hu1 hll hR hO hr hm
      generalize u1.toNat = n1 at *
      go_wp2
      go_roundw
      case rel => exact ⟨k + 1, by go_num, by omega, HB.out.far (by simp; omega) _, HN.out _ rfl, (HBEL.out.setCell (by simp; omega) _), HR.out.far (by simp) _⟩
      case measure => simp [intOf]; omega
    · have hm := mix_all (shiftOf l) (List.replicate 16 (0 : UInt8)) (k := k) (by simp; omega) (by rw [shiftOf_length]; omega)
      rw [hm] at hO
      have HO := Lib.hid hO
      have HBEL := Lib.hid hbel
      have HR := Lib.hid hR
      have HAL := Lib.hid (shiftOf_length l)
      clear hB hbel hm hR hll hO
      go_wp2_with (first
        | refine wpList_loadB arr16 rfl (.tmp 3) rfl HO.out HAL.out rfl ?_
        | (refine wpList_storeB arr16 rfl (.tmp 2) (.tmp 21) rfl HR.out rfl HAL.out rfl rfl ?_; intro w2 h2 hg2))
      exact bodyPost_ret (results_B arr16 rfl _ h2 HAL.out rfl) rfl ⟨rfl, HBEL.out.trans (below_of_grown hg2 (Nat.le_succ _) HBEL.out.size)⟩
end Go.Proofs.YtaanhancjmigdaaDoor
namespace Go.Proofs.YtaanhancjmigdaaDoor
open Go.RowKit

theorem arr4 : ArrT Tryd.prog 92 5 4 := ⟨Tryd.underlying92, by kernel_rfl⟩

/-- A word turned round by one byte, and substituted. -/
def turnOf (K l : List UInt8) : List UInt8 := (List.range 4).map fun i => K.getD (l.getD ((i + 1) % 4) 0).toNat 0
theorem turnOf_length (K l : List UInt8) : (turnOf K l).length = 4 := by simp [turnOf]

set_option maxRecDepth 10000 in
set_option maxHeartbeats 1000000 in
theorem turn_any (gC : Nat) (K l : List UInt8) (w : World) (hK : BB w gC 110 K) (hKl : K.length = 432) (hl : l.length = 4) :
    Calls Tryd.prog 84 #[.pointer (some ⟨gC, 0, none⟩), .agg (bcells l).toArray] w fun e w' => e = .returned (.agg (bcells (turnOf K l)).toArray) ∧ Below w.heap.size w w' := by
  have hgC := hK.lt
  have HK := Lib.hid hK
  have HKL := Lib.hid hKl
  have HL := Lib.hid hl
  clear hK hKl hl
  go_enter Tryd.func84, Tryd.ntmps84
  go_wp2
  go_loopw [7] (fun i wr => ∃ k : Nat, i = .int .i64 k ∧ k ≤ 4 ∧ BB wr w.heap.size 92 l ∧ BB wr (w.heap.size + 2) 92 (mix (turnOf K l) (List.replicate 4 0) k) ∧ Below w.heap.size w wr ∧ BB wr (w.heap.size + 1) 92 (List.replicate 4 0)) (fun i _ => 4 - (intOf i).toNat)
  case atStart => exact ⟨0, rfl, by omega, ((BB.new w _ l).alloc _).alloc _, by rw [mix_zero]; exact (heap_alloc_at2 _ _ _ _), (((Below.refl _ _).alloc (Nat.le_refl _) _).alloc (by simp) _).alloc (by simp; omega) _, (Below.heap_alloc _ _ _ (by simp)).trans (heap_alloc2_new _ _ _)⟩
  case round =>
    obtain ⟨k, rfl, hk, hB, hO, hbel, hR⟩ := hrel
    have hll : (turnOf K l).length = (List.replicate 4 (0 : UInt8)).length := by rw [turnOf_length]; rfl
    by_cases hlt : k < 4
    · obtain ⟨m, hm⟩ : ∃ m, m = (k + 1) % 4 := ⟨_, rfl⟩
      obtain ⟨u1, hu1⟩ : ∃ u, l[m]? = some u := ⟨_, List.getElem?_eq_getElem (by rw [HL.out]; omega)⟩
      have hu1l := u1.toNat_lt
      obtain ⟨u2, hu2⟩ : ∃ u, K[u1.toNat]? = some u := ⟨_, List.getElem?_eq_getElem (by rw [HKL.out]; omega)⟩
      have c1 := hB.at_ hu1
      have c3 := (HK.out.below hbel hgC).at_ hu2
      have c2 := hO.at_ (i := k) (u := 0) (by rw [mix_get _ _ hll _ _ (Nat.le_refl _), List.getElem?_replicate, if_pos hlt])
      have f1 := hO.free k
      have hki : (k : Int) < 4 := by omega
      obtain ⟨q, hq⟩ : ∃ q, q = k + 1 := ⟨_, rfl⟩
      have w4' : IntKind.i64.wrap ((k : Int) + 1) = (q : Int) := by rw [IntKind.wrap_i64]; omega
      have w5 : (q : Int).tmod 4 = (m : Int) := by rw [Int.tmod_eq_emod_of_nonneg (by omega)]; omega
      have b1 : (m : Int) < 4 := by omega
      have b2 : (u1.toNat : Int) < 256 := by omega
      have hak : (turnOf K l)[k]? = some u2 := by
        rw [turnOf, List.getElem?_map, List.getElem?_range hlt]
        simp only [Option.map_some, List.getD]
        rw [← hm, hu1, Option.getD_some, hu2]
        rfl
      have HN := Lib.hid (fun x hx => (mix_set (turnOf K l) _ hll k _ hak) ▸ hO.drew.set_ k u2 x hx)
      have HBEL := Lib.hid hbel
      have HB := Lib.hid hB
      have HR := Lib.hid hR
      clear hak hB hbel hu1 hll hR hO hm hu2 hu1l hq
      generalize u1.toNat = n1 at *
      generalize u2.toNat = n2 at *
      go_wp2
      go_still_tail 12, (by kernel_rfl)
      clear w4' w5
      change wpList _ _ _ _ _ wr.drew
      go_wp2
      go_roundw
      case rel => exact ⟨k + 1, by go_num, by omega, HB.out.drew.far (by simp; omega) _, HN.out _ rfl, (HBEL.out.drew.setCell (by simp; omega) _), HR.out.drew.far (by simp) _⟩
      case measure => simp [intOf]; omega
    · have hm := mix_all (turnOf K l) (List.replicate 4 (0 : UInt8)) (k := k) (by simp; omega) (by rw [turnOf_length]; omega)
      rw [hm] at hO
      have HO := Lib.hid hO
      have HBEL := Lib.hid hbel
      have HR := Lib.hid hR
      have HAL := Lib.hid (turnOf_length K l)
      clear hB hbel hm hR hll hO
      go_wp2_with (first
        | refine wpList_loadB arr4 rfl (.tmp 5) rfl HO.out HAL.out rfl ?_
        | (refine wpList_storeB arr4 rfl (.tmp 4) (.tmp 23) rfl HR.out rfl HAL.out rfl rfl ?_; intro w2 h2 hg2))
      exact bodyPost_ret (results_B arr4 rfl _ h2 HAL.out rfl) rfl ⟨rfl, HBEL.out.trans (below_of_grown hg2 (Nat.le_succ _) HBEL.out.size)⟩

/-- The block of two numbers. -/
def counterOf (a b : Nat) : List UInt8 := (List.range 16).map fun i => if i < 8 then UInt8.ofNat (a / 2 ^ (8 * (7 - i))) else UInt8.ofNat (b / 2 ^ (8 * (15 - i)))
/-- The same when k of its bytes on either side are laid, from the end on. -/
def counterTo (a b k : Nat) : List UInt8 := (List.range 16).map fun i => if i < 8 then (if 8 ≤ k + i then UInt8.ofNat (a / 2 ^ (8 * (7 - i))) else 0) else (if 16 ≤ k + i then UInt8.ofNat (b / 2 ^ (8 * (15 - i))) else 0)
theorem counterTo_zero (a b : Nat) : counterTo a b 0 = List.replicate 16 0 := by
  apply List.ext_getElem?
  intro i
  unfold counterTo
  by_cases h : i < 16
  · rw [List.getElem?_map, List.getElem?_range h, List.getElem?_replicate, if_pos h, Option.map_some]
    congr 1
    by_cases h8 : i < 8
    · rw [if_pos h8, if_neg (by omega)]
    · rw [if_neg h8, if_neg (by omega)]
  · rw [List.getElem?_eq_none (by simp; omega), List.getElem?_eq_none (by simp; omega)]
theorem counterTo_all (a b : Nat) : counterTo a b 8 = counterOf a b := by
  unfold counterTo counterOf
  apply List.map_congr_left
  intro i hi
  have hi' : i < 16 := by simpa using hi
  by_cases h8 : i < 8
  · rw [if_pos h8, if_pos h8, if_pos (by omega)]
  · rw [if_neg h8, if_neg h8, if_pos (by omega)]
theorem counterTo_length (a b k : Nat) : (counterTo a b k).length = 16 := by simp [counterTo]
theorem counterOf_length (a b : Nat) : (counterOf a b).length = 16 := by simp [counterOf]
theorem counterTo_set (a b k : Nat) (hk : k < 8) : ((counterTo a b k).set (7 - k) (UInt8.ofNat (a / 2 ^ (8 * k)))).set (15 - k) (UInt8.ofNat (b / 2 ^ (8 * k))) = counterTo a b (k + 1) := by
  apply List.ext_getElem?
  intro i
  rw [List.getElem?_set, List.getElem?_set]
  by_cases h : i < 16
  · have e : ∀ j, (counterTo a b j)[i]? = some (if i < 8 then (if 8 ≤ j + i then UInt8.ofNat (a / 2 ^ (8 * (7 - i))) else 0) else (if 16 ≤ j + i then UInt8.ofNat (b / 2 ^ (8 * (15 - i))) else 0)) := by
      intro j
      rw [counterTo, List.getElem?_map, List.getElem?_range h]
      rfl
    rw [e, e, List.length_set, counterTo_length]
    by_cases h1 : 15 - k = i
    · have : k = 15 - i := by omega
      rw [if_pos h1, if_pos (by omega), if_neg (by omega), if_pos (by omega), this]
    · rw [if_neg h1]
      by_cases h2 : 7 - k = i
      · have : k = 7 - i := by omega
        rw [if_pos h2, if_pos (by omega), if_pos (by omega), if_pos (by omega), this]
      · rw [if_neg h2]
        congr 1
        by_cases h8 : i < 8
        · rw [if_pos h8, if_pos h8]
          by_cases h9 : 8 ≤ k + i
          · rw [if_pos h9, if_pos (by omega)]
          · rw [if_neg h9, if_neg (by omega)]
        · rw [if_neg h8, if_neg h8]
          by_cases h9 : 16 ≤ k + i
          · rw [if_pos h9, if_pos (by omega)]
          · rw [if_neg h9, if_neg (by omega)]
  · rw [List.getElem?_eq_none (by rw [counterTo_length]; omega), List.getElem?_eq_none (by rw [counterTo_length]; omega), if_neg (by omega), if_neg (by omega)]

theorem shr_byte (a k : Nat) : ((a : Int) / ((2 ^ (8 * k) : Nat) : Int)) % 256 = ((UInt8.ofNat (a / 2 ^ (8 * k))).toNat : Int) := by
  simp

set_option maxHeartbeats 1000000 in
theorem counter_any (a b : Nat) (w : World) :
    Calls Tryd.prog 72 #[.int .u64 (a : Int), .int .u64 (b : Int)] w fun e w' => e = .returned (.agg (bcells (counterOf a b)).toArray) ∧ Below w.heap.size w w' := by
  go_enter Tryd.func72, Tryd.ntmps72
  go_wp2
  go_loopw [7] (fun i wr => ∃ k : Nat, i = .int .i64 k ∧ k ≤ 8 ∧ BB wr (w.heap.size + 1) 22 (counterTo a b k) ∧ Below w.heap.size w wr ∧ BB wr w.heap.size 22 (List.replicate 16 0)) (fun i _ => 8 - (intOf i).toNat)
  case atStart => exact ⟨0, rfl, by omega, by rw [counterTo_zero]; exact heap_alloc2_new _ _ _, ((Below.refl _ _).alloc (Nat.le_refl _) _).alloc (by simp) _, heap_alloc2_old _ _ _⟩
  case round =>
    obtain ⟨k, rfl, hk, hO, hbel, hR⟩ := hrel
    by_cases hlt : k < 8
    · have c1 := hO.at_ (i := 7 - k) (u := 0) (by rw [counterTo, List.getElem?_map, List.getElem?_range (by omega), Option.map_some, if_pos (by omega), if_neg (by omega)])
      have c2 := hO.at_ (i := 15 - k) (u := 0) (by rw [counterTo, List.getElem?_map, List.getElem?_range (by omega), Option.map_some, if_neg (by omega), if_neg (by omega)])
      have f1 := hO.free (7 - k)
      have f2 := hO.free (15 - k)
      have hki : (k : Int) < 8 := by omega
      have HN := Lib.hid (fun x y hx hy => (counterTo_set a b k hlt) ▸ (hO.set_ (7 - k) (UInt8.ofNat (a / 2 ^ (8 * k))) x hx).set_ (15 - k) (UInt8.ofNat (b / 2 ^ (8 * k))) y hy)
      have HBEL := Lib.hid hbel
      have HR := Lib.hid hR
      clear hbel hR hO
      go_wp2
      go_roundw
      case rel => exact ⟨k + 1, by go_num, by omega, HN.out _ _ (by simp) (by simp), (HBEL.out.setCell (Nat.le_succ _) _).setCell (Nat.le_succ _) _, (HR.out.far (by simp) _).far (by simp) _⟩
      case measure => simp [intOf]; omega
    · obtain rfl : k = 8 := by omega
      rw [counterTo_all] at hO
      have HO := Lib.hid hO
      have HBEL := Lib.hid hbel
      have HR := Lib.hid hR
      have HAL := Lib.hid (counterOf_length a b)
      clear hbel hR hO
      go_wp2_with (first
        | refine wpList_loadB arr16 rfl (.tmp 5) rfl HO.out HAL.out rfl ?_
        | (refine wpList_storeB arr16 rfl (.tmp 4) (.tmp 27) rfl HR.out rfl HAL.out rfl rfl ?_; intro w2 h2 hg2))
      exact bodyPost_ret (results_B arr16 rfl _ h2 HAL.out rfl) rfl ⟨rfl, HBEL.out.trans (below_of_grown hg2 (Nat.le_refl _) HBEL.out.size)⟩
end Go.Proofs.YtaanhancjmigdaaDoor
