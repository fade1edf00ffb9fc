/- ahead: the directories on the way to a path. -/
import Derived.Test.YtmbmahpklkcioaaDoorTre
namespace Go.Proofs.YtmbmahpklkcioaaDoor
open Go.RowKit Go.Shelf
attribute [local go_sem] Oper.semAt_some

/-- The directories on the way, as far as the loop has come: behind the top, those that end at places up to k. -/
def dirs (l : List UInt8) : Nat → List (List UInt8)
  | 0 => [[47]]
  | k + 1 => dirs l k ++ (if l[k + 1]? = some 47 then [l.take (k + 1)] else [])
def aheads (l : List UInt8) : List (List UInt8) := if l = [47] then [] else dirs l (l.length - 1)
theorem dirs_mono (l : List UInt8) (k : Nat) : ∀ d, dirs l k <+: dirs l (k + d)
  | 0 => List.prefix_refl _
  | d + 1 => (dirs_mono l k d).trans (List.prefix_append _ _)
theorem dirs_le (l : List UInt8) {k m : Nat} (h : k ≤ m) : dirs l k <+: dirs l m := by
  obtain ⟨d, rfl⟩ : ∃ d, m = k + d := ⟨m - k, by omega⟩
  exact dirs_mono l k d

set_option maxRecDepth 100000 in
set_option maxHeartbeats 2000000 in
theorem ahead1_any (n l b : Nat) (s : ByteArray) (p : List UInt8) (hp : s.data.toList = p) (hs : p.length ≤ 1000000) (hne : 0 < p.length) (hn : 1 ≤ n) (J Jx : List (List UInt8) → World → Prop)
    (hY : ∀ pre (x : ByteArray) W, J pre W → W.heap[b]? = some (.cells #[.string s] 9 (0, 0)) → x.size ≤ p.length → YieldAt Fence.wide (n - 1) Tryd.prog l #[.string x] W fun e W' =>
      (e = .returned (.bool true) ∧ J (pre ++ [x.data.toList]) W' ∧ W'.heap[b]? = some (.cells #[.string s] 9 (0, 0))) ∨ (e = .returned (.bool false) ∧ Jx (pre ++ [x.data.toList]) W'))
    (W : World) (hC : W.heap[b]? = some (.cells #[.string s] 9 (0, 0))) (h0 : J [] W) :
    CallsIn Fence.wide n Tryd.prog 50 #[.func (.yield l) #[] #[], .pointer (some ⟨b, 0, none⟩)] W fun e W' => (∃ v, e = .returned v) ∧
      (J (aheads p) W' ∨ (∃ pre, pre <+: aheads p ∧ Jx pre W')) := by
  refine callsIn_of_wp Tryd.func50 rfl trivial ?_ rfl
  simp only [Tryd.ntmps50, List.size_toArray, List.length_cons, List.length_nil, Nat.reduceAdd, Nat.reduceSub, Array.replicate_succ, Array.replicate_zero, List.push_toArray, List.append_toArray, List.nil_append, List.cons_append]
  have c1 := cell_box hC
  by_cases h1 : p = [47]
  · have hb := bytes_of hp
    subst h1
    subst hb
    have HA := Lib.hid (show J (aheads [47]) W from h0)
    clear hp hs hne h0
    gi_wp2
    refine ⟨fun _ h => (by cases h), ?_⟩
    gi_wp2
    refine bodyPost_ret (results_none rfl _ _ _) rfl ?_
    exact ⟨⟨_, rfl⟩, .inl HA.out⟩
  · have n3 := str_ne (a := s) (b := ⟨#[47]⟩) (fun e => h1 (by rw [← hp, e]))
    have n3' : (s.toList == [47]) = false := by rw [show ([47] : List UInt8) = (⟨#[47]⟩ : ByteArray).toList from by rw [ByteArray.toList_eq]]; exact n3
    clear n3
    have HX := Lib.hid (show aheads p = dirs p (p.length - 1) by rw [aheads, if_neg h1])
    obtain ⟨fn, tmps, assign, body, hy, hR⟩ := hY [] ⟨#[47]⟩ W h0 hC (show 1 ≤ p.length from hne)
    have HP := Lib.hid hp
    have HY := Lib.hid hY
    have hz : s.size = p.length := by rw [← hp]; rfl
    have HZ := Lib.hid hz
    clear hp hY h0 hC hz h1
    gi_wp2
    refine hR.mono ?_
    clear hy hR c1
    rintro e W3 (⟨rfl, hJ3, hC3⟩ | ⟨rfl, hJ3⟩)
    · have c3 := cell_box hC3
      have HJ3 := Lib.hid (show J (dirs p 0) W3 from hJ3)
      have HC3 := Lib.hid hC3
      clear hJ3 hC3
      gi_wp2
      gi_loopw [3] (fun v wr => ∃ k : Nat, v = .int .i64 ((k : Int) + 1) ∧ k + 1 ≤ p.length ∧ wr.heap[b]? = some (.cells #[.string s] 9 (0, 0)) ∧ J (dirs p k) wr) (fun v _ => p.length - (intOf v).toNat)
      case atStart => exact ⟨0, rfl, hne, HC3.out, HJ3.out⟩
      case round =>
        clear c3
        obtain ⟨k, rfl, hk, hC, hJ⟩ := hrel
        have c3 := cell_box hC
        by_cases hlt : k + 1 < p.length
        · have hki : (k : Int) + 1 < (s.size : Int) := by have := HZ.out; omega
          have hg : s[k + 1]'(by have := HZ.out; omega) = p[k + 1] := by have := HP.out; subst this; simp [ByteArray.getElem_eq_getElem_data]
          have hex : (s.extract 0 (k + 1)).data.toList = p.take (k + 1) := by rw [ext_data s _ HP.out, List.drop_zero]
          obtain ⟨c, hc⟩ : ∃ c, c = p[k + 1] := ⟨_, rfl⟩
          rw [← hc] at hg
          by_cases he : c = 47
          · have HD := Lib.hid (show dirs p (k + 1) = dirs p k ++ [(s.extract 0 (k + 1)).data.toList] by
              rw [dirs, hex, if_pos (by rw [List.getElem?_eq_getElem hlt, ← hc, he])])
            obtain ⟨fn, tmps, assign, body, hy, hR⟩ := HY.out (dirs p k) (s.extract 0 (k + 1)) wr hJ hC (by rw [ByteArray.size_extract]; omega)
            subst he
            clear hc hex
            gi_wp2
            refine hR.mono ?_
            clear hy hR c3
            rintro e W5 (⟨rfl, hJ5, hC5⟩ | ⟨rfl, hJ5⟩)
            · gi_wp2
              go_roundw
              case rel => exact ⟨k + 1, by go_num, by omega, hC5, by rw [HD.out]; exact hJ5⟩
              case measure => simp [intOf]; omega
            · gi_wp2
              refine bodyPost_ret (results_none rfl _ _ _) rfl ?_
              exact ⟨⟨_, rfl⟩, .inr ⟨_, by rw [HX.out, ← HD.out]; exact dirs_le p (by omega), hJ5⟩⟩
          · have HD := Lib.hid (show dirs p (k + 1) = dirs p k by
              rw [dirs, if_neg (by rw [List.getElem?_eq_getElem hlt, ← hc]; exact fun e => he (Option.some.inj e)), List.append_nil])
            have hcq : ((c.toNat : Int) == 47) = false := beq_eq_false_iff_ne.2 (fun e => he (UInt8.toNat.inj (by show c.toNat = 47; omega)))
            have hcn : ¬ (c.toNat : Int) = 47 := fun e => he (UInt8.toNat.inj (by show c.toNat = 47; omega))
            have HJ := Lib.hid hJ
            clear hc hex hJ he
            gi_wp2
            refine ⟨fun _ h => (by cases h), ?_⟩
            gi_wp2
            go_roundw
            case rel => exact ⟨k + 1, by go_num, by omega, hC, by rw [HD.out]; exact HJ.out⟩
            case measure => simp [intOf]; omega
        · have hki : ¬ (k : Int) + 1 < (s.size : Int) := by have := HZ.out; omega
          have HJ := Lib.hid (show J (aheads p) wr by rw [HX.out, show p.length - 1 = k by omega]; exact hJ)
          clear hJ
          gi_wp2
          go_end0
          exact ⟨⟨_, rfl⟩, .inl HJ.out⟩
    · gi_wp2
      refine bodyPost_ret (results_none rfl _ _ _) rfl ?_
      exact ⟨⟨_, rfl⟩, .inr ⟨_, by rw [HX.out]; exact dirs_le p (Nat.zero_le _), hJ3⟩⟩
/-- ahead: the path is boxed. -/
theorem ahead_any (w : World) (s : ByteArray) :
    Calls Tryd.prog 37 #[.string s] w fun e w' => e = .returned (.func (.func 50) #[] #[.pointer (some ⟨w.heap.size, 0, none⟩)]) ∧ w' = w.alloc (.cells #[.string s] 9) := by
  go_enter Tryd.func37, Tryd.ntmps37
  go_wp2
  go_ret
  exact ⟨rfl, rfl⟩
end Go.Proofs.YtmbmahpklkcioaaDoor
