/- Texts that came in; the walks of great, Same, speaks. -/
import Derived.Test.YtbkaabimafipoaaPte
namespace Go.Proofs.Ytbkaabimafipoaa
open Go.ChangeShapes Go.WideShapes Go.RowKit

/-- The slice at A reads as these texts; all in blocks below B. -/
def RT (w : World) (B : Nat) (A : Option Addr) (ls : List (List UInt8)) (cap : Nat) : Prop :=
  ls.length ≤ cap ∧ cap ≤ maxLen ∧ ((A = none ∧ cap = 0) ∨ ∃ a, A = some a ∧ ∀ k l, ls[k]? = some l → a.block < B ∧ ∃ V c, w.cell? (a.add k) = some (.slice V l.length c) ∧ RB w B V l c)
section
variable {w w' : World} {B B' cap : Nat} {A : Option Addr} {ls : List (List UInt8)}
theorem RT.nil_ (w : World) (B : Nat) : RT w B none [] 0 := ⟨Nat.le_refl _, Nat.zero_le _, .inl ⟨rfl, rfl⟩⟩
theorem RT.below (h : RT w B A ls cap) (hb : Below B w w') : RT w' B A ls cap :=
  ⟨h.1, h.2.1, h.2.2.imp id fun ⟨a, hA, hc⟩ => ⟨a, hA, fun k l hl => by
    obtain ⟨h1, V, c, h2, h3⟩ := hc k l hl
    exact ⟨h1, V, c, (hb.cell (p := a.add k) (by rw [add_block]; exact h1)).trans h2, h3.below hb⟩⟩⟩
theorem RT.open_ (h : RT w B A ls cap) (hp : 0 < ls.length) :
    ∃ b off, A = some ⟨b, off, none⟩ ∧ b < B ∧ ∀ k l, ls[k]? = some l → ∃ V c, w.cell? ⟨b, off + k, none⟩ = some (.slice V l.length c) ∧ RB w B V l c := by
  rcases h.2.2 with ⟨_, h0⟩ | ⟨⟨b, off, s⟩, hA, hc⟩
  · have := h.1; omega
  · obtain ⟨hb, V, c, h0, -⟩ := hc 0 _ (List.getElem?_eq_getElem hp)
    have hs : s = none := by simpa [Addr.add] using World.cell?_spot h0
    subst hs
    refine ⟨b, off, hA, hb, fun k l hl => ?_⟩
    obtain ⟨_, V, c, h1, h2⟩ := hc k l hl
    exact ⟨V, c, by rwa [Addr.add_lit] at h1, h2⟩
end
theorem flat_take (ls : List (List UInt8)) (k : Nat) (l : List UInt8) (h : ls[k]? = some l) : (ls.take (k + 1)).flatten = (ls.take k).flatten ++ l := by
  obtain ⟨hk, rfl⟩ := List.getElem?_eq_some_iff.1 h
  rw [List.take_succ_eq_append_getElem hk, List.flatten_append]
  simp
theorem flat_le (ls : List (List UInt8)) (k : Nat) : (ls.take k).flatten.length ≤ ls.flatten.length := by
  have h : ls.flatten = (ls.take k).flatten ++ (ls.drop k).flatten := by rw [← List.flatten_append, List.take_append_drop]
  rw [h, List.length_append]
  omega

/-- Few texts, and short ones. -/
structure SmallL (ls : List (List UInt8)) : Prop where
  h1 : ls.length ≤ 100
  h2 : ls.flatten.length ≤ 2000
set_option maxHeartbeats 1000000 in
theorem great_any (w : World) (A : Option Addr) (ls : List (List UInt8)) (n cap : Nat) (hn : ls.length = n) (h : RT w w.heap.size A ls cap) :
    Calls Try.prog 8 #[.slice A n cap] w fun e w' => (e = .returned (.bool true) ∨ (e = .returned (.bool false) ∧ SmallL ls)) ∧ w' = w := by
  have hcap : n ≤ 9223372036854775807 := by have h1 := h.1; have h2 := h.2.1; unfold maxLen at h2; omega
  have H := Lib.hid h
  have HN := Lib.hid hn
  clear h hn
  go_enter Try.func8, Try.ntmps8
  go_wp2
  go_loopw [3, 8] (fun s3 s8 wr => ∃ k : Nat, s3 = .int .i64 ((ls.take k).flatten.length : Int) ∧ s8 = .int .i64 k ∧ k ≤ n ∧ (ls.take k).flatten.length ≤ 5000 ∧ (0 < k → n ≤ 100) ∧ wr = w) (fun _ s8 _ => n - (intOf s8).toNat)
  case atStart => exact ⟨0, by simp, rfl, Nat.zero_le _, by simp, fun h => by omega, rfl⟩
  case round =>
    obtain ⟨k, rfl, rfl, hk, hf, hm, rfl⟩ := hrel
    have HM := Lib.hid hm
    clear hm
    by_cases hkn : k < n
    · have hki : (k : Int) < (n : Int) := by omega
      have hkw : IntKind.i64.wrap ((k : Int) + 1) = ((k + 1 : Nat) : Int) := by simp [IntKind.wrap, IntKind.bits, IntKind.signed]; omega
      obtain ⟨b, off, rfl, hbb, hc⟩ := H.out.open_ (by rw [HN.out]; omega)
      obtain ⟨l, hl⟩ : ∃ l, ls[k]? = some l := ⟨_, List.getElem?_eq_getElem (by rw [HN.out]; omega)⟩
      obtain ⟨V, c, hc0, hr⟩ := hc k l hl
      have hll : l.length ≤ 9223372036854775807 := by have h1 := hr.1; have h2 := hr.2.1; unfold maxLen at h2; omega
      have HL := Lib.hid hl
      have hft := flat_take ls k l hl
      have HFT := Lib.hid hft
      obtain ⟨q, hq⟩ : ∃ q, l.length = q := ⟨_, rfl⟩
      obtain ⟨f, hfl⟩ : ∃ f, (ls.take k).flatten.length = f := ⟨_, rfl⟩
      have HQ := Lib.hid hq
      have HF := Lib.hid hfl
      rw [hq] at hc0 hll
      rw [hfl] at hf ⊢
      have hki2 : (k : Int) ≤ 9223372036854775807 := by omega
      clear hc hbb hl hr hft hq hfl
      by_cases h1 : 2000 < q
      · have h1i : (2000 : Int) < (q : Int) := by omega
        go_wp2
        go_ret
        exact ⟨.inl rfl, rfl⟩
      have h1i : ¬ (2000 : Int) < (q : Int) := by omega
      by_cases h2 : 2000 < f
      · have h2i : (2000 : Int) < (f : Int) := by omega
        go_wp2
        go_ret
        exact ⟨.inl rfl, rfl⟩
      have h2i : ¬ (2000 : Int) < (f : Int) := by omega
      by_cases h3 : 100 < n
      · have h3i : (100 : Int) < (n : Int) := by omega
        go_wp2
        go_ret
        exact ⟨.inl rfl, rfl⟩
      have h3i : ¬ (100 : Int) < (n : Int) := by omega
      have hw : IntKind.i64.wrap ((f : Int) + (q : Int)) = ((f + q : Nat) : Int) := by simp [IntKind.wrap, IntKind.bits, IntKind.signed]; omega
      go_wp2
      go_roundw
      case rel =>
        have he : (ls.take (k + 1)).flatten.length = f + q := by rw [HFT.out, List.length_append, HF.out, HQ.out]
        refine ⟨k + 1, by rw [he]; first | rfl | go_num, by first | rfl | go_num, by omega, by omega, fun _ => by omega, by trivial⟩
      case measure => simp [intOf]; omega
    · obtain rfl : k = n := by omega
      have hki : ¬ (k : Int) < (k : Int) := by omega
      have hlt : ls.take k = ls := List.take_of_length_le (by rw [HN.out]; exact Nat.le_refl _)
      rw [hlt] at hf ⊢
      obtain ⟨f, hfl⟩ : ∃ f, ls.flatten.length = f := ⟨_, rfl⟩
      have HF := Lib.hid hfl
      rw [hfl] at hf ⊢
      clear hlt hfl
      by_cases h2 : 2000 < f
      · have h2i : (2000 : Int) < (f : Int) := by omega
        go_wp2
        go_ret
        exact ⟨.inl rfl, rfl⟩
      · have h2i : ¬ (2000 : Int) < (f : Int) := by omega
        have HOK := Lib.hid (show SmallL ls by
          refine ⟨?_, by rw [HF.out]; omega⟩
          rw [HN.out]
          by_cases h0 : 0 < k
          · exact HM.out h0
          · omega)
        go_wp2
        go_ret
        exact ⟨.inr ⟨rfl, HOK.out⟩, rfl⟩

set_option maxHeartbeats 1000000 in
theorem same_true (w : World) (A1 A2 : Option Addr) (ls : List ByteArray) (n c1 c2 B1 B2 : Nat) (hn : ls.length = n) (h1 : RS w B1 A1 ls c1) (h2 : RS w B2 A2 ls c2) (hl : n ≤ 1000000) :
    Calls Try.prog 12 #[.slice A1 n c1, .slice A2 n c2] w fun e w' => e = .returned (.bool true) ∧ ∃ m, w' = w.drewN m := by
  have H1 := Lib.hid h1
  have H2 := Lib.hid h2
  have HN := Lib.hid hn
  clear h1 h2 hn
  go_enter Try.func12, Try.ntmps12
  go_wp2
  go_loopw [5] (fun s5 wr => ∃ k m : Nat, s5 = .int .i64 k ∧ k ≤ n ∧ wr = w.drewN m) (fun s5 _ => n - (intOf s5).toNat)
  case atStart => exact ⟨0, 0, rfl, Nat.zero_le _, rfl⟩
  case round =>
    obtain ⟨k, m, rfl, hk, rfl⟩ := hrel
    by_cases hkn : k < n
    · have hki : (k : Int) < (n : Int) := by omega
      have hkw : IntKind.i64.wrap ((k : Int) + 1) = ((k + 1 : Nat) : Int) := by simp [IntKind.wrap, IntKind.bits, IntKind.signed]; omega
      obtain ⟨b, off, rfl, hb, hc⟩ := H1.out.open_ (by rw [HN.out]; omega)
      obtain ⟨b2, off2, rfl, hb2, hc2⟩ := H2.out.open_ (by rw [HN.out]; omega)
      have k1 : (w.drewN m).cell? ⟨b, off + k, none⟩ = some (.string (ls[k]'(by rw [HN.out]; omega))) := hc k (by rw [HN.out]; omega)
      have k2 : (w.drewN m).cell? ⟨b2, off2 + k, none⟩ = some (.string (ls[k]'(by rw [HN.out]; omega))) := hc2 k (by rw [HN.out]; omega)
      obtain ⟨s, hs⟩ : ∃ s, s = ls[k]'(by rw [HN.out]; omega) := ⟨_, rfl⟩
      rw [← hs] at k1 k2
      obtain ⟨x, hx⟩ : ∃ x, x = w.drewN m := ⟨_, rfl⟩
      rw [← hx] at k1 k2 ⊢
      have HX := Lib.hid hx
      clear hc hc2 hb hb2 hs hx
      go_wp2
      go_quiet (fail)
      go_wp2
      go_roundw
      case rel => exact ⟨k + 1, m + nq, by first | rfl | go_num, by omega, by rw [HX.out, World.drewN_drewN]⟩
      case measure => simp [intOf]; omega
    · obtain rfl : k = n := by omega
      have hki : ¬ (k : Int) < (k : Int) := by omega
      go_wp2
      go_ret
      exact ⟨rfl, m, rfl⟩
end Go.Proofs.Ytbkaabimafipoaa
