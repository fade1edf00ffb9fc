/- The walk of base's List. -/
import Derived.Test.YtejmbabeniekhaaDoorBsc
import Derived.Test.YtejmbabeniekhaaDoorShi
import Derived.Test.YtejmbabeniekhaaDoorRow
import Derived.Test.YtejmbabeniekhaaDoorSlr
namespace Go.Proofs.YtejmbabeniekhaaDoor
open Go.RowKit Go.Maps Go.WideMaps
open Go.WideShapes (sorted_perm)

/-! The entries of a map with string keys, in the order of its keys. -/
section
variable {β : Type}
/-- What stands under a key. -/
def lookM (z : β) (M : List (List UInt8 × β)) (x : List UInt8) : β := ((M.find? fun p => decide (p.1 = x)).map (·.2)).getD z
theorem lookM_mem (z : β) : ∀ {M : List (List UInt8 × β)} {x : List UInt8}, x ∈ keysM M → (x, lookM z M x) ∈ M
  | [], x, h => by cases h
  | p :: M, x, h => by
    unfold lookM
    rw [List.find?_cons]
    by_cases e : p.1 = x
    · rw [decide_eq_true e]
      show (x, p.2) ∈ p :: M
      rw [← e]
      exact List.mem_cons_self
    · rw [decide_eq_false e]
      unfold keysM at h
      rw [List.map_cons, List.mem_cons] at h
      exact List.mem_cons_of_mem _ (lookM_mem z (h.resolve_left (fun e2 => e e2.symm)))
theorem lookM_eq (z : β) {M : List (List UInt8 × β)} (hd : (keysM M).Nodup) {p : List UInt8 × β} (hp : p ∈ M) : lookM z M p.1 = p.2 := by
  have h1 := lookM_mem z (mem_keysM.2 ⟨p.2, hp⟩)
  have hpw : M.Pairwise (fun p q => p.1 ≠ q.1) := List.pairwise_map.1 hd
  exact Classical.byContradiction fun hne => by
    have : ∀ M : List (List UInt8 × β), M.Pairwise (fun p q => p.1 ≠ q.1) → ∀ a b : List UInt8 × β, a ∈ M → b ∈ M → a.1 = b.1 → a = b := by
      intro M h
      induction M with
      | nil => intro a b ha; cases ha
      | cons p M ih =>
        obtain ⟨h3, h4⟩ := List.pairwise_cons.1 h
        intro a b ha hb e
        rcases List.mem_cons.1 ha with ea | ha2
        · rcases List.mem_cons.1 hb with eb | hb2
          · rw [ea, eb]
          · exact absurd (by rw [← ea]; exact e) (h3 _ hb2)
        · rcases List.mem_cons.1 hb with eb | hb2
          · exact absurd (by rw [← eb]; exact e.symm) (h3 _ ha2)
          · exact ih h4 a b ha2 hb2 e
    exact hne (congrArg Prod.snd (this M hpw _ _ h1 hp rfl))
theorem lookM_perm (z : β) {M : List (List UInt8 × β)} (hd : (keysM M).Nodup) {ks : List (List UInt8)} (hp : ks.Perm (keysM M)) : (ks.map (lookM z M)).Perm (M.map (·.2)) := by
  refine (hp.map _).trans (List.Perm.of_eq ?_)
  unfold keysM
  rw [List.map_map]
  exact List.map_congr_left fun p hp => lookM_eq z hd hp
theorem strKeys_datM {P : Program} {k : TypeId} {vv : β → Value} (hk : P.underlying k = some .string) {M : List (List UInt8 × β)} (h : FineM P k strV M) : (strKeys (datM P k strV vv M)).Perm (keysM M) := by
  unfold datM strKeys
  refine ((sorted_perm _).map _).trans (List.Perm.of_eq ?_)
  unfold keysM
  rw [List.map_map]
  refine List.map_congr_left fun p hp => ?_
  obtain ⟨s, h1, h2, _⟩ := string_of_keyOf hk (h.2 p.1 (mem_keysM.2 ⟨p.2, hp⟩))
  show strOf (litOf P k strV p.1) = p.1
  rw [h2]
  have h3 := Value.string.inj h1
  show s.data.toList = p.1
  rw [← h3]
/-- Keys that are sorted. -/
def SortedK (ks : List (List UInt8)) : Prop := ks.Pairwise (fun a b => a ≤ b)
theorem sorted_merge (ss : List (List UInt8)) : SortedK (ss.mergeSort (fun x y => decide (x ≤ y))) := by
  have hr : ∀ a b c : List UInt8, decide (a ≤ b) = true → decide (b ≤ c) = true → decide (a ≤ c) = true := fun a b c h1 h2 => by simp only [decide_eq_true_eq] at *; exact List.le_trans h1 h2
  have ho : ∀ a b : List UInt8, (decide (a ≤ b) || decide (b ≤ a)) = true := fun a b => by simp only [Bool.or_eq_true, decide_eq_true_eq]; exact List.le_total a b
  exact (List.pairwise_mergeSort hr ho ss).imp fun h => by simpa using h
theorem none_rowB {a b c : World} {r : Option Nat} (h : a.grownBy b none) (k : b.grownBy c r) (hr : ∀ g, r = some g → a.heap.size ≤ g) : a.grownBy c none := by
  cases r with
  | none => exact grown_trans' h k
  | some g => exact none_new h k (hr g rfl)
/-- What a listing gives: in the order of the keys, each once. -/
def ListedM (M : List (List UInt8 × β)) (ks : List (List UInt8)) : Prop := ks.Perm (keysM M) ∧ SortedK ks
end

set_option maxRecDepth 10000 in
theorem rowE : RowT Tryd.prog 45 51 20 := ⟨Tryd.underlying45, by
  refine ⟨_, _, rfl, rfl, rfl, ?_, rfl⟩
  decide, by omega⟩
theorem size1E : (Tryd.prog.info? 51).map (·.size) = some 20 := by kernel_rfl
/-- The row of keys, as a slice of one cell each. -/
theorem keys_row {w : World} {base : Nat} {t : TypeId} {v : Value} {ks : List (List UInt8)} {n : Nat} (hn : n = ks.length) (h : w.ownsRow base t 1 v n (ks.map Go.Proofs.encStr)) : RowX w base t 1 v (ks.map fun x => [strV x]) := by
  subst hn
  refine ⟨?_, fun c hc => ?_⟩
  · rw [List.length_map]
    have : (ks.map fun x => [strV x]).flatten = ks.map Go.Proofs.encStr := by
      clear h
      induction ks with
      | nil => rfl
      | cons x ks ih => rw [List.map_cons, List.flatten_cons, ih]; rfl
    rw [this]
    exact h
  · obtain ⟨x, _, rfl⟩ := List.mem_map.1 hc
    rfl

set_option maxRecDepth 10000 in
set_option maxHeartbeats 2000000 in
theorem list_any (w : World) (c b : Nat) (M : Em) (h : BS w c b M) (hlen : M.length ≤ 1000000) :
    Calls Tryd.prog 28 #[.pointer (some ⟨c, 0, none⟩)] w fun e w' => ∃ v ks, e = .returned v ∧ ListedM M ks ∧ RowX w' w.heap.size 51 20 v ((ks.map (lookM zeroEn M)).map enC) ∧ w.grownBy w' none := by
  have q0 : w.cell? ⟨c, 0, none⟩ = some (.map (some b)) := h.1.at_ rfl
  have HS := Lib.hid h
  have HLN := Lib.hid hlen
  have HM := Lib.hid h.2.1.2
  have HFM := Lib.hid h.2.1.1
  have HG := Lib.hid (grown_alloc w (.cells #[.map (some b)] 108) none)
  have HD := Lib.hid (show Maps.size (datM Tryd.prog 9 strV enV M) ≤ maxLen ∧ Maps.size (datM Tryd.prog 9 strV enV M) * 16 ≤ 140737488355328 by rw [size_datM]; unfold maxLen; omega)
  clear h hlen
  go_enter Tryd.func28, Tryd.ntmps28
  go_wp2_with (first
    | (go_at_call 60; refine (callsIn_wide.1 (sh_maps_Keys_60 (some b) _)).mono ?_; rintro e w1 ⟨rfl, rfl⟩)
    | (go_at_call 59; refine (callsIn_wide.1 (sh_slices_Sorted_keys_59_60 b _ _ RV w HM.out HD.out.1 HD.out.2)).mono ?_; rintro e w1 ⟨v, ss, rfl, hss, hrow, -, hb⟩; have G1 := Lib.hid (grown_trans' HG.out (none_of_below hb (Nat.le_refl _)))
       obtain ⟨ks, hks, hl⟩ : ∃ ks : List (List UInt8), ks = ss.mergeSort (fun x y => decide (x ≤ y)) ∧ ss.length = ks.length := ⟨_, rfl, (List.Perm.length_eq (List.mergeSort_perm _ _)).symm⟩
       have HKS := Lib.hid (show ListedM M ks from ⟨by rw [hks]; exact (List.mergeSort_perm _ _).trans (hss.trans (strKeys_datM Tryd.underlying9 HFM.out)), by rw [hks]; exact sorted_merge ss⟩)
       rw [← hks] at hrow
       obtain ⟨A, cap, hv, hsr, -⟩ := (keys_row hl hrow).shape
       obtain ⟨n, hn⟩ : ∃ n, n = ks.length := ⟨_, rfl⟩
       rw [List.length_map, ← hn] at hv
       subst hv
       have HSR := Lib.hid hsr; have HN := Lib.hid hn
       have HNM := Lib.hid (show n ≤ 1000000 by rw [hn, HKS.out.1.length_eq]; unfold keysM; rw [List.length_map]; exact HLN.out)
       clear hss hrow hb hks hl hsr hn))
  have S1 := Lib.hid (HS.out.none G1.out)
  have HR1 := Lib.hid (RowX.nil_ w1 w1.heap.size 51 20)
  clear q0
  go_loopw [3, 13] (fun vl i wr => ∃ k : Nat, k ≤ n ∧ i = .int .i64 k ∧ RowX wr w1.heap.size 51 20 vl (((ks.take k).map (lookM zeroEn M)).map enC) ∧ w1.grownBy wr none) (fun _ i _ => n - (intOf i).toNat)
  case atStart => exact ⟨0, Nat.zero_le _, rfl, by simpa using HR1.out, World.grownBy.refl w1 none⟩
  case round =>
    obtain ⟨k, hk, rfl, hRL, hW⟩ := hrel
    have HRL := Lib.hid hRL
    have HW := Lib.hid hW
    have SR1 := Lib.hid (S1.out.none hW)
    have hn0 := HNM.out
    by_cases hlt : k < n
    · obtain ⟨x, hx⟩ : ∃ x, x = ks[k]'(by rw [← HN.out]; exact hlt) := ⟨_, rfl⟩
      have hxm : x ∈ keysM M := HKS.out.1.mem_iff.1 (by rw [hx]; exact List.getElem_mem _)
      obtain ⟨e, he⟩ : ∃ e, e = lookM zeroEn M x := ⟨_, rfl⟩
      have HEM := Lib.hid (show (x, e) ∈ M by rw [he]; exact lookM_mem zeroEn hxm)
      have HEO := Lib.hid (show enOk e from (S1.out.2.2.2 _ HEM.out).2)
      have HTK := Lib.hid (show ((ks.take (k + 1)).map (lookM zeroEn M)).map enC = ((ks.take k).map (lookM zeroEn M)).map enC ++ [enC e] by rw [List.take_succ_eq_append_getElem (by rw [← HN.out]; exact hlt), List.map_append, List.map_append, he, hx]; rfl)
      obtain ⟨ab, ao, hAe, hab, hcells⟩ := HSR.out.elem (k := k) (by rw [List.length_map, ← HN.out]; exact hlt)
      have hce : (ks.map fun x => [strV x])[k]'(by rw [List.length_map, ← HN.out]; exact hlt) = [strV x] := by rw [List.getElem_map, hx]
      rw [hce] at hcells
      have hc0 := ((below_of_none HW.out).cell (p := ⟨ab, ao + 1 * k + 0, none⟩) hab).trans (hcells 0 _ rfl)
      rw [Nat.one_mul, Nat.add_zero] at hc0
      have q1 : wr.cell? ⟨ab, ao + k, none⟩ = some (.string ⟨x.toArray⟩) := hc0
      have q0 : wr.cell? ⟨c, 0, none⟩ = some (.map (some b)) := SR1.out.1.at_ rfl
      have HLE := Lib.hid (enC_length HEO.out.lk)
      have HLR := Lib.hid (show (((ks.take k).map (lookM zeroEn M)).map enC).length ≤ 1000000000 by rw [List.length_map, List.length_map, List.length_take]; omega)
      have HSZ := Lib.hid HW.out.size
      subst hAe
      clear hce hcells hc0 hx hxm he hab hRL hW
      go_wp2_with (first
        | refine wpList_look1In keyedS strV_inj rfl _ _ rfl Tryd.underlying108 zeroE_run SR1.out.2.1 rfl x e rfl HEM.out ?_
        | (go_at_call 57; refine (apart_any e HEO.out _).mono ?_; rintro r w3 ⟨rfl, g3⟩; have W3 := Lib.hid (grown_trans' HW.out g3); have RL3 := Lib.hid (HRL.out.none g3); have SZ3 := Lib.hid (Nat.le_trans HSZ.out g3.size); have TK3 := Lib.hid True.intro; clear g3)
        | (have hx := TK3; clear hx TK3; refine wpList_lit1 (p := enC e) Tryd.underlying45 aggE.hi zeroE_run HLE.out (by omega) (by omega) rfl (.tmp 24) rfl rfl ?_
           have RL4 := Lib.hid (RL3.out.none (grown_alloc w3 (.cells (enC e).toArray 51) none)); have C4 := Lib.hid (CB.new w3 51 (enC e)); have W4 := Lib.hid (grown_trans' W3.out (grown_alloc w3 (.cells (enC e).toArray 51) none)); have TK4 := Lib.hid True.intro)
        | (have hx := TK4; clear hx TK4; refine wpList_appX rowE rfl (.tmp 17) (.tmp 25) rfl (b := w3.heap.size) (off := 0) (c := 1) RL4.out (fun j v hj => by have := C4.out.at_ hj; rwa [Nat.zero_add]) HLE.out (enC_one e) rfl rfl HLR.out (Nat.le_trans SZ3.out (by rw [World.size_alloc]; omega)) ?_
           intro v' w5 h5 g5 a5; have RL5 := Lib.hid h5; have W5 := Lib.hid (none_rowB W4.out g5 (fun g hg => (RL4.out.lt g hg).1)); clear h5 g5 a5))
      go_roundw
      case rel => exact ⟨k + 1, by omega, by go_num, by rw [HTK.out]; exact RL5.out, W5.out⟩
      case measure => simp [intOf]; omega
    · have hkn : k = n := by omega
      have HRF := HRL.out
      rw [hkn, HN.out, List.take_length] at HRF
      have HR2 := Lib.hid HRF
      clear HRF hRL hW
      go_wp2
      go_ret
      exact ⟨_, ks, rfl, HKS.out, HR2.out.base_ G1.out.size, grown_trans' G1.out HW.out⟩
end Go.Proofs.YtejmbabeniekhaaDoor
