/- tree.names, where no node has the directory as its parent: no name. -/
import Derived.Test.YtmbmahpklkcioaaDoorTrt
namespace Go.Proofs.YtmbmahpklkcioaaDoor
open Go.RowKit Go.Maps Go.WideMaps

/-- No node but the top has the directory as its parent. -/
def NoKid (M : List (List UInt8 × Nd)) (d : List UInt8) : Prop := ∀ p n, (p, n) ∈ M → p ≠ [47] → p.length ≤ 1000000 ∧ ∃ a b, p = a ++ 47 :: b ∧ (47 : UInt8) ∉ b ∧ p.take (max a.length 1) ≠ d
theorem below_grown {B r : Nat} {w w' : World} (h : w.grownBy w' (some r)) (hr : B ≤ r) (hB : B ≤ w.heap.size) : Below B w w' :=
  ⟨h.os, h.tape, h.output, h.size, fun i hi => h.block i (by omega) (by simp; omega)⟩
theorem kid_parent {M : List (List UInt8 × Nd)} (hF : FineM Tryd.prog 9 kS M) {D : DataW Value} (hD : D = datM Tryd.prog 9 kS vN M) {d : ByteArray} (hk : NoKid M d.data.toList) (x : ByteArray) (kl : Lit)
    (hkx : keyOf Tryd.prog 9 (.string x) = some kl) (hh : Maps.has D kl = true) (hne : x ≠ ⟨#[47]⟩) :
    ∃ r : ByteArray, (∀ W, Calls Tryd.prog 38 #[.string x] W fun e w' => e = .returned (.string r) ∧ w' = W) ∧ (r.toList == d.toList) = false := by
  have hxe := bytes_of (rfl : x.data.toList = x.data.toList)
  have hok : OkK Tryd.prog 9 kS x.data.toList := OkK.of (l := kl) (by show keyOf _ _ (.string ⟨x.data.toList.toArray⟩) = _; rw [← hxe]; exact hkx)
  have hl : litOf Tryd.prog 9 kS x.data.toList = kl := by
    have h2 : keyOf Tryd.prog 9 (kS x.data.toList) = some kl := by show keyOf _ _ (.string ⟨x.data.toList.toArray⟩) = _; rw [← hxe]; exact hkx
    exact Option.some.inj (hok.symm.trans h2)
  have hin : x.data.toList ∈ keysM M := by
    have h3 := has_datM (vv := vN) keyedS kS_inj hF hok
    rw [hl, ← hD, hh] at h3
    simpa using h3.symm
  obtain ⟨nd, hin⟩ := mem_keysM.1 hin
  obtain ⟨hlen, a, b, hab, hb, hpd⟩ := hk _ _ hin (fun e => hne (bytes_of e))
  refine ⟨⟨(x.data.toList.take (max a.length 1)).toArray⟩, fun W => (parent_any x a b hab hb hlen W).mono ?_, str_ne fun e => hpd (by rw [← e])⟩
  rintro e w' ⟨r, rfl, hr, rfl⟩
  rw [← hab] at hr
  exact ⟨by rw [bytes_of hr], rfl⟩

set_option maxRecDepth 10000 in
set_option maxHeartbeats 2000000 in
theorem names_none (w : World) (tb mb : Nat) (M : List (List UInt8 × Nd)) (hT : TR w tb mb M) (d : ByteArray) (hk : NoKid M d.data.toList) :
    Calls Tryd.prog 28 #[.pointer (some ⟨tb, 0, none⟩), .string d] w fun e w' => e = .returned (.slice none 0 0) ∧ Below w.heap.size w w' := by
  have kt := (cell_box hT.top).1
  have hown := hT.map.2
  have hlt : mb < w.heap.size := hT.map.lt
  have hF := hT.map.1
  obtain ⟨D, hD⟩ : ∃ D, D = datM Tryd.prog 9 kS vN M := ⟨_, rfl⟩
  rw [← hD] at hown
  have KP := Lib.hid (fun x kl => kid_parent hF hD hk x kl)
  obtain ⟨n, hn⟩ : ∃ n, n = M.length := ⟨_, rfl⟩
  rw [← hn] at hown
  clear hT hk hF hD hn
  go_enter Tryd.func28, Tryd.ntmps28
  go_wp2_with (first
    | (at_range; refine wpList_range_own _ rfl _ 51 rfl 9 _ keyedS Tryd.underlying51 RV mb n _ rfl hown ?_; intro w0 hrg0 hg0 hs0)
    | go_in)
  go_frame
  go_loopw [5] (fun v wr => v = .slice none 0 0 ∧ ∃ (left : Lit → Bool) (cnt : Nat), wr.ranges Tryd.prog 9 RV mb w.heap.size n D left cnt ∧ Hid (∀ kl, left kl = true → Maps.has D kl = true) ∧ Hid (Below w.heap.size w wr))
    (fun _ wr => wr.rangeLeft mb w.heap.size)
  case atStart => exact ⟨rfl, _, _, hrg0, fun kl h => h, below_of_none hg0⟩
  case round =>
    obtain ⟨rfl, left, cnt, hrg, HS, HB⟩ := hrel
    go_wp2_with (first
      | (at_next; refine wpList_next_ranges _ rfl _ rfl 9 keyedS RV Value.string id (fun key kl h => by obtain ⟨s, rfl, -, -⟩ := string_of_keyOf Tryd.underlying9 h; exact ⟨s, rfl⟩) (fun v y _ => ⟨v, rfl⟩) mb w.heap.size n _ _ _ rfl hrg ?_ ?_)
      | go_in)
    · intro hc0 hl0
      clear hrg
      go_wp2_with (go_at_call 40; refine (sh_slices_Sort_string_none none 0 _).mono ?_; rintro e w' ⟨rfl, rfl⟩)
      go_ret
      exact ⟨rfl, HB.out⟩
    · intro x c kl y ps w1 cnt1 hkx hlx hy hat hrg1 hlt1 hg1 hs1 hen
      have hm0 : wr.rangeLeft mb w.heap.size = cnt := hrg.left_eq
      have hm1 : w1.rangeLeft mb w.heap.size = cnt1 := hrg1.left_eq
      have HB1 := Lib.hid (HB.out.trans (below_grown hg1 (Nat.le_refl _) HB.out.size))
      have HR1 := Lib.hid hrg1
      have HX := Lib.hid (HS.out _ hlx)
      have HS1 : Hid (∀ kl', (left kl' && !kl'.sameKey kl) = true → Maps.has D kl' = true) := fun kl' h => HS.out _ (by simp at h; exact h.1)
      by_cases hx : x = ⟨#[47]⟩
      · subst hx
        clear hrg hrg1 HB hat hy hlx HS HX hkx
        go_wp2
        exact ⟨⟨rfl, _, _, HR1.out, HS1, HB1.out⟩, by rw [hm1, hm0]; exact hlt1⟩
      · have n1 := str_ne hx
        have n2 : (x.toList == [47]) = false := by rw [show ([47] : List UInt8) = (⟨#[47]⟩ : ByteArray).toList from by rw [ByteArray.toList_eq]]; exact n1
        obtain ⟨r, PA, hrd⟩ := KP.out x kl hkx HX.out hx
        have PH := Lib.hid PA
        clear hrg hrg1 HB hat hy hlx HS HX hkx hx PA
        go_wp2_with (go_at_call 38; refine (PH.out _).mono ?_; rintro e w' ⟨rfl, rfl⟩)
        exact ⟨⟨rfl, _, _, HR1.out, HS1, HB1.out⟩, by rw [hm1, hm0]; exact hlt1⟩
end Go.Proofs.YtmbmahpklkcioaaDoor
