/- base's statements: their example; letter; the walk of BaseFull. -/
import Derived.Test.YtejmbabeniekhaaDoorBsd
import Derived.Test.YtejmbabeniekhaaDoorBsg
import Derived.Test.YtejmbabeniekhaaDoorBsm
import Derived.Test.YtejmbabeniekhaaDoorNumW
import Derived.Laws.BitsLemmas
namespace Go.Proofs.YtejmbabeniekhaaDoor
open Go.RowKit Go.Maps Go.WideMaps

theorem wrap_small (n : Int) (h0 : -9223372036854775808 ≤ n) (h1 : n ≤ 9223372036854775807) : IntKind.i64.wrap n = n := by
  have h : IntKind.i64.wrap n = if 9223372036854775808 ≤ n % 18446744073709551616 then n % 18446744073709551616 - 18446744073709551616 else n % 18446744073709551616 := by
    simp [IntKind.wrap, IntKind.bits, IntKind.signed]
  rw [h]
  split <;> omega

set_option maxRecDepth 10000 in
theorem letter_any (i : Nat) (hi : i < 26) (w : World) : Calls Tryd.prog 29 #[.int .i64 i] w fun e w' => e = .returned (.string ⟨(nmB i).toArray⟩) ∧ w.grownBy w' none := by
  obtain ⟨z, hz⟩ : ∃ z : Int, z = 97 + (i : Int) := ⟨_, rfl⟩
  have hz1 : IntKind.i64.wrap (97 + (i : Int)) = z := by rw [wrap_small _ (by omega) (by omega), hz]
  have hb : bcells (nmB i) = [.int .u8 (z % 256), .int .u8 64, .int .u8 82] := by
    have h1 : ((UInt8.ofNat (97 + i)).toNat : Int) = z % 256 := by rw [UInt8.toNat_ofNat', hz]; omega
    show [Value.int .u8 ((UInt8.ofNat (97 + i)).toNat : Int), .int .u8 64, .int .u8 82] = _
    rw [h1]
  have hr := run_strB byteT Tryd.underlying9 (RB.of_CB (n := 3) (CB.new w 5 (bcells (nmB i))) (by show 3 ≤ maxLen; unfold maxLen; omega) rfl)
  rw [hb] at hr
  have hr2 : (convert 23 9 (.slice (some ⟨w.heap.size, 0, none⟩) 3 3)).run Tryd.prog (w.alloc (.cells #[.int .u8 (z % 256), .int .u8 64, .int .u8 82] 5)) = .ok (strV (nmB i)) (w.alloc (.cells #[.int .u8 (z % 256), .int .u8 64, .int .u8 82] 5)) := hr
  clear hr hb hz hi
  go_enter Tryd.func29, Tryd.ntmps29
  go_wp2
  go_ret
  exact ⟨rfl, grown_alloc w _ none⟩

theorem b64_and15 (n : Int) : bits .and .i64 n 15 = n % 16 := by
  have h127 : (BitVec.ofInt 64 15).toNat = 2 ^ 4 - 1 := by decide
  have key : (BitVec.ofInt 64 n &&& BitVec.ofInt 64 15).toNat = (n % ((2 ^ 64 : Nat) : Int)).toNat % 2 ^ 4 := by
    rw [BitVec.toNat_and, BitVec.toNat_ofInt, h127, Nat.and_two_pow_sub_one_eq_mod]
  show IntKind.i64.wrap ((BitVec.ofInt 64 n &&& BitVec.ofInt 64 15).toNat : Nat) = n % 16
  rw [key, IntKind.wrap_i64]
  omega
theorem b64_and7 (n : Int) : bits .and .i64 n 7 = n % 8 := by
  have h127 : (BitVec.ofInt 64 7).toNat = 2 ^ 3 - 1 := by decide
  have key : (BitVec.ofInt 64 n &&& BitVec.ofInt 64 7).toNat = (n % ((2 ^ 64 : Nat) : Int)).toNat % 2 ^ 3 := by
    rw [BitVec.toNat_and, BitVec.toNat_ofInt, h127, Nat.and_two_pow_sub_one_eq_mod]
  show IntKind.i64.wrap ((BitVec.ofInt 64 n &&& BitVec.ofInt 64 7).toNat : Nat) = n % 8
  rw [key, IntKind.wrap_i64]
  omega

theorem b64_and1 (n : Int) : bits .and .i64 n 1 = n % 2 := by
  have h127 : (BitVec.ofInt 64 1).toNat = 2 ^ 1 - 1 := by decide
  have key : (BitVec.ofInt 64 n &&& BitVec.ofInt 64 1).toNat = (n % ((2 ^ 64 : Nat) : Int)).toNat % 2 ^ 1 := by
    rw [BitVec.toNat_and, BitVec.toNat_ofInt, h127, Nat.and_two_pow_sub_one_eq_mod]
  show IntKind.i64.wrap ((BitVec.ofInt 64 n &&& BitVec.ofInt 64 1).toNat : Nat) = n % 2
  rw [key, IntKind.wrap_i64]
  omega
theorem put_at (e : En) (he : enOk e) (w w0 : World) (hM : ML w0) (hw : w0.grownBy w none) (c b : Nat) (M : Em) (h : BS w c b M) (hlen : M.length ≤ 1000000) (C : Array Value) (hC : C = (enC e).toArray) (M' : Em) (n : Int) (hr : putE M e = (M', n)) :
    Calls Tryd.prog 24 #[.pointer (some ⟨c, 0, none⟩), .agg C] w fun x w' => x = .returned (.int .i64 n) ∧ BS w' c b M' ∧ w.grownBy w' (some b) := by
  subst hC
  have := put_any e he w (hM.below (below_of_none hw)) c b M h hlen
  rw [hr] at this
  exact this

set_option maxRecDepth 10000 in
set_option maxHeartbeats 1000000 in
theorem bspeaks_any (w : World) (hM : ML w) : Calls Tryd.prog 19 #[] w fun e w' => e = .returned (.bool true) ∧ w.grownBy w' none := by
  obtain ⟨e, he⟩ : ∃ e : En, e = (nmB 0, zeros 16, 5, 0, true) := ⟨_, rfl⟩
  have HE := Lib.hid (show enOk e from by rw [he]; exact ⟨by show 3 ≤ 1000; omega, zeros_length 16, by show (-9223372036854775808 : Int) ≤ 5 ∧ (5 : Int) ≤ 9223372036854775807; omega, by show (-9223372036854775808 : Int) ≤ 0 ∧ (0 : Int) ≤ 9223372036854775807; omega⟩)
  have HC := Lib.hid (show (#[.string ⟨#[97, 64, 82]⟩, .int .u8 0, .int .u8 0, .int .u8 0, .int .u8 0, .int .u8 0, .int .u8 0, .int .u8 0, .int .u8 0, .int .u8 0, .int .u8 0, .int .u8 0, .int .u8 0, .int .u8 0, .int .u8 0, .int .u8 0, .int .u8 0, .int .i64 5, .int .i64 0, .bool true] : Array Value) = (enC e).toArray by rw [he]; rfl)
  have HR := Lib.hid (show putE [] e = ([(e.1, e)], 0) by
    have hr : rightE e = true := by rw [he]; unfold rightE; rw [show parses (nmB 0) = true from nmB_parses 0 (by omega)]; rfl
    unfold putE
    rw [hr, if_neg (by simp), if_neg (by simp)]
    rfl)
  have HGET := Lib.hid (show getE [(e.1, e)] (nmB 0) zeroEn false by
    refine ⟨fun v hv hf => ?_, fun v hv hf => ⟨rfl, rfl⟩, fun h => ⟨rfl, rfl⟩⟩
    rw [List.mem_singleton] at hv
    have h2 := congrArg Prod.snd hv
    have h3 : v = e := h2
    rw [h3, he] at hf
    cases hf)
  have HLZ := Lib.hid (enC_length (e := zeroEn) (zeros_length 16))
  have HM := Lib.hid hM
  clear he hM
  go_enter Tryd.func19, Tryd.ntmps19
  go_wp2_with (first
    | (go_at_call 21; refine (bnew_any _).mono ?_; rintro x w1 ⟨rfl, h1, g1⟩; have H1 := Lib.hid h1; have G1 := Lib.hid g1; clear h1 g1)
    | (go_at_call 24; refine (put_at e HE.out _ w HM.out G1.out _ _ _ H1.out (by simp) _ HC.out _ _ HR.out).mono ?_; rintro x w2 ⟨rfl, h2, g2⟩; have H2 := Lib.hid h2; have G2 := Lib.hid (none_new G1.out g2 (Nat.le_refl _)); clear h2 g2)
    | (go_at_call 26; refine (get_any (nmB 0) (by show 3 ≤ 1000; omega) _ _ _ _ H2.out zeroEn false HGET.out).mono ?_; rintro x w3 ⟨rfl, g3⟩; have H3 := Lib.hid (H2.out.none g3); have G3 := Lib.hid (grown_trans' G2.out g3); have TK1 := Lib.hid True.intro; clear g3)
    | (have hx := TK1; clear hx TK1; refine wpList_allocC zeroE_run rfl rfl ?_; have TK2 := Lib.hid True.intro)
    | (have hx := TK2; clear hx TK2; refine wpList_storeC (off := 0) (p := enC zeroEn) aggE.hi rfl (.tmp 3) (.tmp 14) rfl (enV zeroEn) rfl (enC_one zeroEn) (CB.new w3 51 (enC zeroEn)) HLZ.out (by rw [HLZ.out]; omega) (by first | rfl | go_simp) (by first | rfl | go_simp) ?_; intro w4 h4 g4; have G4' := Lib.hid (none_new (grown_alloc w3 (.cells (enC zeroEn).toArray 51) none) g4 (Nat.le_refl _)); have H4 := Lib.hid (H3.out.none G4'.out); have G4 := Lib.hid (grown_trans' G3.out G4'.out); clear h4 g4)
    | (go_at_call 28; refine (list_any _ _ _ _ H4.out (by simp)).mono ?_; rintro x w5 ⟨v, ks, rfl, hk, hv, g5⟩; obtain ⟨A5, c5, hv5, -⟩ := hv.shape; have hkl : ks.length = 1 := by rw [hk.1.length_eq]; rfl
       rw [List.length_map, List.length_map, hkl] at hv5; subst hv5; have G5 := Lib.hid (grown_trans' G4.out g5); clear g5 hv hk hkl))
  go_ret
  exact ⟨rfl, G5.out⟩
end Go.Proofs.YtejmbabeniekhaaDoor
