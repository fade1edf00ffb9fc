/- The walk of TreeFull. -/
import Derived.Test.YtmbmahpklkcioaaDoorTse
namespace Go.Proofs.YtmbmahpklkcioaaDoor
open Go.RowKit Go.Maps Go.WideMaps

theorem flat0 (b : Nat) (v : Value) : Flat [([47], ⟨b, true, rootB, 61, v⟩)] (pfs (min 0 63)) := ⟨b, v, [], rfl, rfl, fun p hp => by simp [pfs] at hp, fun q hq => by simp at hq⟩
theorem conv2 (w : World) (u1 u2 : UInt8) (x1 x2 : Int) (h1 : x1 = (u1.toNat : Int)) (h2 : x2 = (u2.toNat : Int)) :
    (convert 22 9 (.slice (some ⟨w.heap.size, 0, none⟩) 2 2)).run Tryd.prog (w.alloc (.cells #[.int .u8 x1, .int .u8 x2] 5)) = .ok (.string ⟨#[u1, u2]⟩) (w.alloc (.cells #[.int .u8 x1, .int .u8 x2] 5)) := by
  subst h1 h2
  exact conv_rb (RB.new w 5 [u1, u2] (by simp [maxLen]) (w.heap.size + 1) (by omega)) rfl
theorem wraps (k : Nat) (hk : k < 72) : wrap64 ((k : Int) / 26) = (k : Int) / 26 ∧ wrap64 (97 + (k : Int) / 26) = 97 + (k : Int) / 26 ∧ (97 + (k : Int) / 26) % 256 = 97 + (k : Int) / 26 ∧ wrap64 ((k : Int) + 1) = ((k + 1 : Nat) : Int) ∧ (97 + (k : Int) / 26) = ((UInt8.ofNat (97 + k / 26)).toNat : Int) ∧ (97 + (k : Int) % 26) = ((UInt8.ofNat (97 + k % 26)).toNat : Int) := by
  have e1 : (UInt8.ofNat (97 + k / 26)).toNat = 97 + k / 26 := by rw [UInt8.toNat_ofNat']; omega
  have e2 : (UInt8.ofNat (97 + k % 26)).toNat = 97 + k % 26 := by rw [UInt8.toNat_ofNat']; omega
  rw [e1, e2]
  unfold wrap64
  omega
theorem app22 (a1 a2 : UInt8) : ((⟨#[47, 102]⟩ : ByteArray) ++ ⟨#[a1, a2]⟩).data.toList = [47, 102, a1, a2] := by
  first
    | rfl
    | (rw [ByteArray.data_append]; rfl)
    | simp
set_option maxRecDepth 10000 in
set_option maxHeartbeats 4000000 in
theorem walk_TreeFull (w : World) (n : Int) (_hn : (Lit.int .i64 n).wf = true) (dir : Bool) : Calls Tryd.prog 6 #[.int .i64 n, .bool dir] w fun e w' => e = .returned (.bool true) ∧ Below w.heap.size w w' := by
  obtain ⟨q, hq, hq7⟩ : ∃ q : Nat, bits .and .i64 n 7 = (q : Int) ∧ q ≤ 7 := by
    obtain ⟨q, hq, hb⟩ := and_low n 3 (by decide)
    exact ⟨q, hb, by omega⟩
  have hwq : wrap64 (63 + (q : Int)) = 63 + (q : Int) := by unfold wrap64; omega
  have HQ7 := Lib.hid hq7
  have TK0 := Lib.hid True.intro
  clear hq7
  go_enter Tryd.func6, Tryd.ntmps6
  go_wp2_with (first
    | (have hx := TK0; go_at_call 8; refine (speaks_any _).mono ?_; rintro e w0 ⟨rfl, g⟩; have G0 := Lib.hid g; clear g; clear hx TK0; have TK1 := Lib.hid True.intro)
    | (have hx := TK1; go_at_call 9; refine (TG.new _).mono ?_; rintro e w1 ⟨tb, mb, b0, v0, rfl, t0, g0⟩; have T1 := Lib.hid (t0.since G0.out); clear t0 g0; clear hx TK1))
  go_loopw [6] (fun i wr => ∃ (k : Nat) (M : List (List UInt8 × Nd)), i = .int .i64 k ∧ k ≤ 63 + q ∧ Hid (TG w wr tb mb M) ∧ Hid (Flat M (pfs (min k 63)))) (fun i _ => (63 + q) - (intOf i).toNat)
  case atStart => exact ⟨0, _, rfl, by omega, T1.out, flat0 b0 v0⟩
  case round =>
    obtain ⟨k, M, rfl, hk, HT, HF⟩ := hrel
    by_cases hlt : k < 63 + q
    · have hli : (k : Int) < 63 + (q : Int) := by omega
      obtain ⟨e1, e2, e3, e4, e5, e6⟩ := wraps k (by have := HQ7.out; omega)
      have ho := pf_one (i := k) (by have := HQ7.out; omega)
      have hn := pfs_out (i := k) (k := min k 63) (by have := HQ7.out; omega) (by omega) (by omega)
      have hpf : pf k = [47, 102, UInt8.ofNat (97 + k / 26), UInt8.ofNat (97 + k % 26)] := rfl
      have hsc := pfs_succ k
      obtain ⟨a1, ha1⟩ : ∃ a, a = UInt8.ofNat (97 + k / 26) := ⟨_, rfl⟩
      obtain ⟨a2, ha2⟩ : ∃ a, a = UInt8.ofNat (97 + k % 26) := ⟨_, rfl⟩
      rw [← ha1] at e5 hpf
      rw [← ha2] at e6 hpf
      rw [hpf] at ho hn hsc
      have kv := conv2 wr _ _ _ _ e5 e6
      have HO := Lib.hid ho
      have HN := Lib.hid hn
      have HSC := Lib.hid hsc
      clear e5 e6 ho hn hpf ha1 ha2 hsc
      by_cases h63 : k < 63
      · have h63i : (k : Int) < 63 := by omega
        have HK63 := Lib.hid h63
        have HB : Hid (TG w (wr.alloc (.cells #[.int .u8 (97 + (k : Int) / 26), .int .u8 (97 + (k : Int) % 26)] 5)) tb mb M) := HT.out.below ((Below.refl _ _).alloc (Nat.le_refl _) _)
        go_wp2_with (go_at_call 11; refine (f_write_ok HB.out HF.out _ [47, 102, a1, a2] (app22 a1 a2) HO.out HN.out 60 (by omega) (by rw [pfs_len]; have := HK63.out; omega)).mono ?_; rintro e w2 ⟨rfl, M2, t2, f2⟩; have T2 := Lib.hid t2; have F2 := Lib.hid f2; clear t2 f2)
        have hf : Flat M2 (pfs (min (k + 1) 63)) := by
          have h1 := F2.out
          have h2 := HK63.out
          rw [show min k 63 = k by omega] at h1
          rw [show min (k + 1) 63 = k + 1 by omega, HSC.out]
          exact h1
        exact ⟨⟨k + 1, M2, by go_num, by omega, T2.out, hf⟩, by simp [intOf]; omega⟩
      · have h63i : ¬ (k : Int) < 63 := by omega
        have HK63 := Lib.hid h63
        have HB : Hid (TG w (wr.alloc (.cells #[.int .u8 (97 + (k : Int) / 26), .int .u8 (97 + (k : Int) % 26)] 5)) tb mb M) := HT.out.below ((Below.refl _ _).alloc (Nat.le_refl _) _)
        go_wp2_with (go_at_call 11; refine (f_write_no HB.out HF.out _ [47, 102, a1, a2] (app22 a1 a2) HO.out HN.out 60 (by omega) (by rw [pfs_len]; have := HK63.out; omega) (by rw [pfs_len]; omega)).mono ?_; rintro e w2 ⟨rfl, t2⟩; have T2 := Lib.hid t2; clear t2)
        have hf : Flat M (pfs (min (k + 1) 63)) := by
          have h1 := HF.out
          have h2 := HK63.out
          rw [show min k 63 = 63 by omega] at h1
          rw [show min (k + 1) 63 = 63 by omega]
          exact h1
        exact ⟨⟨k + 1, M, by go_num, by omega, T2.out, hf⟩, by simp [intOf]; omega⟩
    · have hli : ¬ (k : Int) < 63 + (q : Int) := by omega
      have hf := HF.out
      rw [show min k 63 = 63 by omega] at hf
      have F1 := Lib.hid hf
      have TK2 := Lib.hid True.intro
      clear hf HF
      cases dir with
      | true =>
        go_wp2_with (first
          | (have hx := TK2; go_at_call 10; refine (f_mkdir_no HT.out F1.out ⟨#[47, 120]⟩ pX rfl oneX outX 61 (by omega) (by rw [pfs_len]; omega) (by rw [pfs_len]; omega)).mono ?_; rintro e w2 ⟨rfl, t⟩; have T2 := Lib.hid t; clear t; clear hx TK2; have TK3 := Lib.hid True.intro)
          | (have hx := TK3; go_at_call 14; refine (f_remove_ok T2.out F1.out ⟨#[47, 102, 97, 97]⟩ pA rfl oneA inA).mono ?_; rintro e w3 ⟨rfl, M3, t, f⟩; have T3 := Lib.hid t; have F3 : Hid (Flat M3 rest62) := f; clear t f; clear hx TK3; have TK4 := Lib.hid True.intro)
          | (have hx := TK4; go_at_call 10; refine (f_mkdir_ok T3.out F3.out ⟨#[47, 120]⟩ pX rfl oneX outX2 61 (by omega) (by rw [rest_len]; omega)).mono ?_; rintro e w4 ⟨rfl, M4, t, f⟩; have T4 := Lib.hid t; have F4 := Lib.hid f; clear t f; clear hx TK4; have TK5 := Lib.hid True.intro)
          | (have hx := TK5; go_at_call 11; refine (f_write_no T4.out F4.out ⟨#[47, 121]⟩ pY rfl oneY outY2 0 (by omega) (by rw [List.length_append, rest_len]; simp) (by rw [List.length_append, rest_len]; simp)).mono ?_; rintro e w5 ⟨rfl, t⟩; have T5 := Lib.hid t; clear t; clear hx TK5))
        go_ret
        exact ⟨rfl, below_of_none T5.out.gr⟩
      | false =>
        go_wp2_with (first
          | (have hx := TK2; go_at_call 10; refine (f_mkdir_no HT.out F1.out ⟨#[47, 120]⟩ pX rfl oneX outX 61 (by omega) (by rw [pfs_len]; omega) (by rw [pfs_len]; omega)).mono ?_; rintro e w2 ⟨rfl, t⟩; have T2 := Lib.hid t; clear t; clear hx TK2; have TK3 := Lib.hid True.intro)
          | (have hx := TK3; go_at_call 14; refine (f_remove_ok T2.out F1.out ⟨#[47, 102, 97, 97]⟩ pA rfl oneA inA).mono ?_; rintro e w3 ⟨rfl, M3, t, f⟩; have T3 := Lib.hid t; have F3 : Hid (Flat M3 rest62) := f; clear t f; clear hx TK3; have TK4 := Lib.hid True.intro)
          | (have hx := TK4; go_at_call 11; refine (f_write_ok T3.out F3.out ⟨#[47, 120]⟩ pX rfl oneX outX2 0 (by omega) (by rw [rest_len]; omega)).mono ?_; rintro e w4 ⟨rfl, M4, t, f⟩; have T4 := Lib.hid t; have F4 := Lib.hid f; clear t f; clear hx TK4; have TK5 := Lib.hid True.intro)
          | (have hx := TK5; go_at_call 15; refine (g_nodes T4.out 64 (by rw [F4.out.len, List.length_append, rest_len]; rfl) (by omega) F4.out.short).mono ?_; rintro e w5 ⟨A5, c5, rfl, t⟩; have T5 := Lib.hid t; clear t; clear hx TK5))
        go_ret
        exact ⟨rfl, below_of_none T5.out.gr⟩
end Go.Proofs.YtmbmahpklkcioaaDoor
