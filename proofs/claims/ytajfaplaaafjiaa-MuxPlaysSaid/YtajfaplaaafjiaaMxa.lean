/- The walk of slices.Delete from the front of a row of bytes of the call's own. -/
import Derived.Test.YtajfaplaaafjiaaFri
import Derived.Deep.RegionLaw
import Derived.Deep.MidRow
import Derived.Lib.SliceRun
import Derived.Lib.SlicesDelete
namespace Go.Proofs.Ytajfaplaaafjiaa
open Go.RowKit

theorem own_setCells {base g n cap : Nat} {e : TypeId} : ∀ (vs : List Value) (o : Nat) (w : World) (xs : List Value), w.ownsRow base e 1 (.slice (some ⟨g, 0, none⟩) n cap) n xs →
    ∃ ys, (w.setCells g o vs).ownsRow base e 1 (.slice (some ⟨g, 0, none⟩) n cap) n ys ∧ w.grownBy (w.setCells g o vs) (some g)
  | [], o, w, xs, h => ⟨xs, h, World.grownBy.refl w _⟩
  | v :: vs, o, w, xs, h => by
    obtain ⟨h1, g1⟩ := h.stored o v
    obtain ⟨ys, h2, g2⟩ := own_setCells vs (o + 1) _ _ h1
    exact ⟨ys, h2, grown_trans' g1 g2⟩

/-- The row cut to what stands in its first cells. -/
theorem own_range {base g n m cap : Nat} {e : TypeId} {w : World} {ys : List Value} {l : List UInt8} (h : w.ownsRow base e 1 (.slice (some ⟨g, 0, none⟩) n cap) n ys) (hr : w.rangeAt g 0 (bcells l)) (hl : l.length = m) (hm : m ≤ n) :
    OwnB w base e (.slice (some ⟨g, 0, none⟩) m cap) l := by
  have hat := fun k hk => World.ownsRow.cellAt h k hk
  rcases h.2 with ⟨h', _⟩ | ⟨g', cap', cur, h', hb, hg, hnc, hcm, hcs, htake⟩
  · simp at h'
  · simp only [Value.slice.injEq, Option.some.injEq, Addr.mk.injEq, and_true, true_and] at h'
    obtain ⟨rfl, rfl⟩ := h'
    subst hl
    refine ⟨by rw [bcells_length, Nat.mul_one], .inr ⟨g, cap, cur, rfl, hb, hg, by omega, hcm, hcs, ?_⟩⟩
    apply List.ext_getElem?
    intro k
    rw [Nat.mul_one, List.getElem?_take]
    by_cases hk : k < l.length
    · rw [if_pos hk]
      have h1 := hr k _ (List.getElem?_eq_getElem (show k < (bcells l).length by rw [bcells_length]; exact hk))
      rw [Nat.zero_add, cell_of_row w g k cur e (0, 0) hg] at h1
      rw [List.getElem?_eq_getElem (show k < (bcells l).length by rw [bcells_length]; exact hk), ← h1]
      simp
    · rw [if_neg hk, List.getElem?_eq_none (by rw [bcells_length]; omega)]

theorem zeroU8 : ∀ w, (zeroValue 5).run Try.prog w = .ok (.int .u8 0) w := by intro w; kernel_rfl

theorem own_there {base g n cap : Nat} {e : TypeId} {w : World} {ys : List Value} (h : w.ownsRow base e 1 (.slice (some ⟨g, 0, none⟩) n cap) n ys) (o m : Nat) (hm : o + m ≤ n) : w.there g o m := fun j hj => by
  refine ⟨?_, World.ownsRow.frozenAt h (o + j)⟩
  rw [World.ownsRow.cellAt h (o + j) (by omega), List.getElem?_eq_getElem (by have := h.1; omega)]
  rfl

set_option maxRecDepth 10000 in
set_option maxHeartbeats 4000000 in
theorem delete_any (w : World) (base : Nat) (A : Option Addr) (n cap : Nat) (l : List UInt8) (j : Nat) (h : OwnB w base 5 (.slice A n cap) l) (hn : l.length = n) (hj : j ≤ n) (hl : n ≤ 140737488355328) :
    Calls Try.prog 61 #[.slice A n cap, .int .i64 0, .int .i64 j] w fun e w' => e = .returned (.slice A (n - j) cap) ∧ OwnB w' base 5 (.slice A (n - j) cap) (l.drop j) ∧ w.grownBy w' (Value.ownBlock (.slice A n cap)) := by
  have t22 : Try.prog.underlying 22 = some (.slice 5) := Try.underlying22
  obtain ⟨i0, hi0, hz0, hz1, hz2⟩ := info_parts byteInfo
  have hcap : n ≤ cap ∧ cap ≤ 9223372036854775807 := by
    obtain ⟨A', cap', e, hr, -⟩ := h.shape
    injection e with e1 e2 e3
    subst e1 e3
    rw [← hn]
    exact ⟨hr.1, hr.2.1⟩
  obtain ⟨hc1, hc2⟩ := hcap
  by_cases heq : j = 0
  · subst heq
    have HO := Lib.hid h
    clear h
    cases A with
    | none =>
      go_enter Try.func61, Try.ntmps61
      go_wp2
      go_ret
      exact ⟨rfl, by simpa using HO.out, World.grownBy.refl _ _⟩
    | some ad =>
      go_enter Try.func61, Try.ntmps61
      go_wp2
      go_ret
      exact ⟨rfl, by simpa using HO.out, World.grownBy.refl _ _⟩
  · have h0 : w.ownsRow base 5 1 (.slice A n cap) n (bcells l) := by rw [← hn] at h ⊢; exact h
    obtain ⟨g, hA⟩ : ∃ g, A = some ⟨g, 0, none⟩ := by
      rcases h0.2 with ⟨h', hz⟩ | ⟨g', cap', cur, h', _⟩
      · omega
      · injection h' with h1
        exact ⟨g', h1⟩
    subst hA
    obtain ⟨news, hnews⟩ : ∃ news, news = bcells (l.drop j) := ⟨_, rfl⟩
    have hlen : news.length = n - j := by rw [hnews, bcells_length, List.length_drop, hn]
    have hcell : ∀ k u, news[k]? = some u → w.cell? ⟨g, j + k, none⟩ = some u := by
      intro k u hu
      have hk : k < n - j := by have := (List.getElem?_eq_some_iff.1 hu).1; omega
      rw [World.ownsRow.cellAt h0 (j + k) (by omega), ← hu, hnews, bcells_at, bcells_at, List.getElem?_drop]
    obtain ⟨B, hB, hsrc⟩ : ∃ B : Addr, (if cap = j then some (⟨g, 0, none⟩ : Addr) else some ⟨g, j, none⟩) = some B ∧ Hid (∀ t u, news[t]? = some u → w.drew.cell? (B.add t) = some u) := by
      by_cases h : cap = j
      · refine ⟨⟨g, 0, none⟩, by simp [h], fun t u hu => ?_⟩
        have h0 : news.length = 0 := by omega
        rw [List.length_eq_zero_iff.1 h0] at hu
        simp at hu
      · refine ⟨⟨g, j, none⟩, by simp [h], fun t u hu => ?_⟩
        rw [Addr.add_lit]
        exact hcell t u hu
    have s1 : Hid (news.length = (n - j) * 1) := by rw [Nat.mul_one]; exact hlen
    have s2 : Hid (∀ u ∈ news, u.oneCell' = true) := by rw [hnews]; exact bcells_one _
    have s3 : Hid (∀ t, t < news.length → (w.drew.cell? ⟨g, 0 + 0 * 1 + t, none⟩).isSome = true ∧ w.drew.frozen? ⟨g, 0 + 0 * 1 + t, none⟩ = false) := by
      intro t ht
      have := own_there h0 0 n (by omega) t (by omega)
      simpa using this
    obtain ⟨W1, hW1⟩ : ∃ W1, W1 = w.drew.setCells g (0 + 0 * 1) news := ⟨_, rfl⟩
    obtain ⟨ys, hy, g1⟩ := own_setCells (base := base) (g := g) (n := n) (cap := cap) (e := 5) news (0 + 0 * 1) w.drew _ h0
    have r1 : W1.rangeAt g 0 news := by rw [hW1]; exact World.rangeAt_setCells_same w.drew g 0 news (fun k hk => by have := s3 k hk; simpa using this)
    rw [← hW1] at hy g1
    have hcl : ∀ ty, (Builtin.clear_ #[22] ty #[.slice (some ⟨g, (n - j), none⟩) (n - (n - j)) (cap - (n - j))]).run Try.prog W1 = .ok (.tuple #[]) (W1.setCells g ((n - j)) (List.replicate (n - (n - j)) (.int .u8 0))) :=
      fun ty => Lib.run_clear_slice W1 _ _ ty _ t22 zeroU8 rfl rfl g ((n - j)) _ _ (by omega) (fun t ht => (own_there hy ((n - j)) (n - (n - j)) (by omega) t ht).1) (fun t ht => (own_there hy ((n - j)) (n - (n - j)) (by omega) t ht).2)
    obtain ⟨W2, hW2⟩ : ∃ W2, W2 = W1.setCells g ((n - j)) (List.replicate (n - (n - j)) (.int .u8 0)) := ⟨_, rfl⟩
    obtain ⟨zs, hz, g2⟩ := own_setCells (base := base) (g := g) (n := n) (cap := cap) (e := 5) (List.replicate (n - (n - j)) (Value.int .u8 0)) ((n - j)) W1 _ hy
    have r2 : W2.rangeAt g 0 news := by rw [hW2]; exact World.rangeAt_setCells_apart r1 g _ _ (.inr (.inl (by omega)))
    rw [← hW2] at hz g2 
    have FIN := Lib.hid (show OwnB W2 base 5 (.slice (some ⟨g, 0, none⟩) (n - j) cap) (l.drop j) ∧ w.grownBy W2 (some g) from
      ⟨own_range hz (by rw [← hnews]; exact r2) (by rw [List.length_drop, hn]) (by omega), grown_trans' (r := some g) ⟨g1.os, g1.tape, g1.output, g1.size, g1.block⟩ g2⟩)
    have hW : Hid (W1 = w.drew.setCells g (0 + 0 * 1) news) := hW1
    have hWW : Hid (W2 = W1.setCells g ((n - j)) (List.replicate (n - (n - j)) (.int .u8 0))) := hW2
    have hic : 0 ≤ cap := by omega
    have hjc : j ≤ cap := by omega
    have hne : ¬ (0 : Int) = (j : Int) := by omega
    clear hW1 hW2 hy hz g1 g2 r1 r2 hnews hlen h0 h hcell
    go_enter Try.func61, Try.ntmps61
    go_wp2_with fail
    go_region_law (refine step_append_room rfl (.tmp 22) (.tmp 25) 22 rfl 5 i0 1 t22 hi0 hz1 g 0 0 cap (by simp [Act.eval, Act.put]) B (n - j) (cap - j) news (by simp [Act.eval, Act.put]) s1.out hsrc.out s2.out (by omega) s3.out ?_; rw [← hW.out])
    go_wp2
    go_ret
    rw [← hWW.out]
    exact ⟨by first | rfl | rw [Nat.zero_add], FIN.out.1, FIN.out.2⟩
end Go.Proofs.Ytajfaplaaafjiaa
