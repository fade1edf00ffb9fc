/- tree.names in full: the last names of the nodes in a directory, sorted. -/
import Derived.Test.YtlkchajkhplapaaGreatDoorTsc
import Derived.Test.YtlkchajkhplapaaGreatDoorTsb
import Derived.Sort.OwnSorted
import Derived.Test.YtlkchajkhplapaaGreatDoorTrs
namespace Go.Proofs.YtlkchajkhplapaaGreatDoor
open Go.RowKit Go.Maps Go.WideMaps

/-- The last name of a path. -/
def lastOf (p : List UInt8) : List UInt8 := (p.reverse.takeWhile (fun c => !(c == 47))).reverse
theorem lastOf_eq {p a b : List UInt8} (h : p = a ++ 47 :: b) (hb : (47 : UInt8) ∉ b) : lastOf p = b := by
  have h1 : ∀ (r s : List UInt8), (47 : UInt8) ∉ r → (r ++ ([47] ++ s)).takeWhile (fun c => !(c == 47)) = r := by
    intro r s hr
    induction r with
    | nil => rfl
    | cons x r ih =>
      have hx : x ≠ 47 := fun e => hr (by rw [e]; exact List.mem_cons_self)
      rw [List.cons_append, List.takeWhile_cons, beq_eq_false_iff_ne.2 hx]
      simp only [Bool.not_false, if_true]
      rw [ih (fun e => hr (List.mem_cons_of_mem _ e))]
  unfold lastOf
  rw [h, List.reverse_append, List.reverse_cons, List.append_assoc, h1 b.reverse a.reverse (by simpa using hb), List.reverse_reverse]
/-- Is it a node in the directory? -/
def kidB (d p : List UInt8) : Bool := decide (p ≠ [47]) && decide (parOf p = d)
def kidsM (M : List (List UInt8 × Nd)) (d : List UInt8) : List (List UInt8) := ((keysM M).filter (kidB d)).map lastOf
/-- Every path but the top has a last name. -/
def Slashed (M : List (List UInt8 × Nd)) : Prop := ∀ p n, (p, n) ∈ M → p ≠ [47] → p.length ≤ 1000000 ∧ ∃ a b, p = a ++ 47 :: b ∧ (47 : UInt8) ∉ b
theorem nodup_le : ∀ {a b : List (List UInt8)}, a.Nodup → (∀ x ∈ a, x ∈ b) → a.length ≤ b.length
  | [], b, _, _ => Nat.zero_le _
  | x :: a, b, hn, hs => by
    obtain ⟨h1, h2⟩ := List.nodup_cons.1 hn
    have hx := hs x List.mem_cons_self
    have h3 := nodup_le (b := b.erase x) h2 fun y hy => (List.mem_erase_of_ne (fun e => h1 (by rw [← e]; exact hy))).2 (hs y (List.mem_cons_of_mem _ hy))
    rw [List.length_erase_of_mem hx] at h3
    have := List.length_pos_of_mem hx
    rw [List.length_cons]
    omega
/-- What a loop over the map has seen. -/
structure Seen (M : List (List UInt8 × Nd)) (d : List UInt8) (left : Lit → Bool) (sn us : List (List UInt8)) : Prop where
  nd : sn.Nodup
  mem : ∀ x ∈ sn, x ∈ keysM M ∧ left (litOf Tryz.prog 9 kS x) = false
  rest : ∀ x ∈ keysM M, x ∉ sn → left (litOf Tryz.prog 9 kS x) = true
  us : us = (sn.filter (kidB d)).map lastOf
section
variable {M : List (List UInt8 × Nd)} {d : List UInt8} {left : Lit → Bool} {sn us : List (List UInt8)}
set_option maxRecDepth 10000 in
theorem Seen.step (h : Seen M d left sn us) (hF : FineM Tryz.prog 9 kS M) {x : List UInt8} (hx : x ∈ keysM M) (hl : left (litOf Tryz.prog 9 kS x) = true) : Seen M d (fun z => left z && !z.sameKey (litOf Tryz.prog 9 kS x)) (sn ++ [x]) (us ++ if kidB d x then [lastOf x] else []) := by
  have hk : ∀ y ∈ keysM M, (litOf Tryz.prog 9 kS y).sameKey (litOf Tryz.prog 9 kS x) = true → y = x := fun y hy e => lit_inj keyedS kS_inj (hF.2 y hy) (hF.2 x hx) (WideAt.sameKey_eq e)
  have hself : (litOf Tryz.prog 9 kS x).sameKey (litOf Tryz.prog 9 kS x) = true := WideAt.sameKey_self (keyedS.key (hF.2 x hx))
  have hxs : x ∉ sn := fun hm => by rw [(h.mem x hm).2] at hl; cases hl
  refine ⟨List.nodup_append.2 ⟨h.nd, by simp, fun a ha b hb e => hxs (by rw [List.mem_singleton.1 hb] at e; rw [← e]; exact ha)⟩, fun y hy => ?_, fun y hy hn => ?_, ?_⟩
  · rcases List.mem_append.1 hy with hy | hy
    · exact ⟨(h.mem y hy).1, by rw [(h.mem y hy).2]; rfl⟩
    · rw [List.mem_singleton.1 hy]; exact ⟨hx, by rw [hself]; simp⟩
  · have h1 : y ∉ sn := fun hm => hn (List.mem_append.2 (.inl hm))
    have h2 : y ≠ x := fun e => hn (by rw [e]; simp)
    have h3 : (litOf Tryz.prog 9 kS y).sameKey (litOf Tryz.prog 9 kS x) = false := by
      cases hs : (litOf Tryz.prog 9 kS y).sameKey (litOf Tryz.prog 9 kS x) with
      | false => rfl
      | true => exact absurd (hk y hy hs) h2
    rw [h.rest y hy h1, h3]; rfl
  · rw [h.us, List.filter_append, List.map_append]
    cases hb : kidB d x <;> simp [hb]
theorem Seen.done (h : Seen M d left sn us) (hF : FineM Tryz.prog 9 kS M) (hl : ∀ z, left z = false) : us.Perm (kidsM M d) := by
  have hp : sn.Perm (keysM M) := (List.perm_ext_iff_of_nodup h.nd hF.1).2 fun x => ⟨fun hx => (h.mem x hx).1, fun hx => by
    apply Classical.byContradiction
    intro hn
    have := h.rest x hx hn
    rw [hl] at this
    cases this⟩
  rw [h.us]
  exact (hp.filter _).map _
theorem Seen.start (hF : FineM Tryz.prog 9 kS M) {D : DataW Value} (hD : D = datM Tryz.prog 9 kS vN M) : Seen M d (Maps.has D) [] [] :=
  ⟨List.nodup_nil, fun x hx => by (cases hx), fun x hx _ => by
    rw [hD, has_datM keyedS kS_inj hF (hF.2 x hx)]
    simpa using hx, rfl⟩
end
theorem entry_in {M : List (List UInt8 × Nd)} (hF : FineM Tryz.prog 9 kS M) {D : DataW Value} (hD : D = datM Tryz.prog 9 kS vN M) {x : ByteArray} {kl : Lit} (hkx : keyOf Tryz.prog 9 (.string x) = some kl) (hh : Maps.has D kl = true) :
    x.data.toList ∈ keysM M ∧ kl = litOf Tryz.prog 9 kS x.data.toList := by
  have hxe := bytes_of (rfl : x.data.toList = x.data.toList)
  have h2 : keyOf Tryz.prog 9 (kS x.data.toList) = some kl := by show keyOf _ _ (.string ⟨x.data.toList.toArray⟩) = _; rw [← hxe]; exact hkx
  have hok : OkK Tryz.prog 9 kS x.data.toList := OkK.of h2
  have hl : litOf Tryz.prog 9 kS x.data.toList = kl := Option.some.inj (hok.symm.trans h2)
  have h3 := has_datM (vv := vN) keyedS kS_inj hF hok
  rw [hl, ← hD, hh] at h3
  exact ⟨by simpa using h3.symm, hl.symm⟩
set_option maxRecDepth 10000 in
theorem rowS : RowT Tryz.prog 47 9 1 := ⟨Tryz.underlying47, by
  refine ⟨_, _, rfl, rfl, rfl, ?_, rfl⟩
  decide, by omega⟩
theorem row_keys {w : World} {base : Nat} {t : TypeId} {v : Value} {ks : List (List UInt8)} (h : RowX w base t 1 v (ks.map fun x => [kS x])) : w.ownsRow base t 1 v ks.length (ks.map Go.Proofs.encStr) := by
  have h1 := h.1
  rw [List.length_map] at h1
  have : (ks.map fun x => [kS x]).flatten = ks.map Go.Proofs.encStr := by
    clear h h1
    induction ks with
    | nil => rfl
    | cons x ks ih => rw [List.map_cons, List.flatten_cons, ih]; rfl
  rwa [this] at h1
theorem World.row_ne_low' {w : World} {base b sz : Nat} {e : TypeId} {v : Value} {Cs : List (List Value)} (h : RowX w base e sz v Cs) (hb : b < base) : some b ≠ v.ownBlock := fun e1 => by
  have := (h.lt b e1.symm).1
  omega
theorem below_row {w1 w w' : World} {base B sz : Nat} {e : TypeId} {v : Value} {Cs : List (List Value)} (hg : w.grownBy w' v.ownBlock) (h : RowX w1 base e sz v Cs) (hb : B ≤ base) (hB : B ≤ w.heap.size) : Below B w w' := by
  cases hv : v.ownBlock with
  | none => rw [hv] at hg; exact (below_of_none hg).mono hB
  | some g => rw [hv] at hg; exact below_grown hg (Nat.le_trans hb (h.lt g hv).1) hB
/-- The names in a directory. -/
def Named (M : List (List UInt8 × Nd)) (d : List UInt8) (ss : List (List UInt8)) : Prop := ss.Perm (kidsM M d) ∧ SortedK ss

set_option maxRecDepth 10000 in
set_option maxHeartbeats 4000000 in
theorem names_any (w : World) (tb mb : Nat) (M : List (List UInt8 × Nd)) (hT : TR w tb mb M) (hlen : M.length ≤ 1000000) (hsl : Slashed M) (d : ByteArray) :
    Calls Tryz.prog 52 #[.pointer (some ⟨tb, 0, none⟩), .string d] w fun e w' => ∃ v ss, e = .returned v ∧ Named M d.data.toList ss ∧ w'.ownsRow w.heap.size 9 1 v ss.length (ss.map Go.Proofs.encStr) ∧ Below w.heap.size w w' := by
  have kt := (cell_box hT.top).1
  have hown := hT.map.2
  have hlt : mb < w.heap.size := hT.map.lt
  have hF := hT.map.1
  obtain ⟨D, hD⟩ : ∃ D, D = datM Tryz.prog 9 kS vN M := ⟨_, rfl⟩
  rw [← hD] at hown
  have HF := Lib.hid hF
  have HD := Lib.hid hD
  have HSL := Lib.hid hsl
  have HLEN := Lib.hid hlen
  obtain ⟨n, hn⟩ : ∃ n, n = M.length := ⟨_, rfl⟩
  rw [← hn] at hown
  clear hT hF hD hn hsl hlen
  go_enter Tryz.func52, Tryz.ntmps52
  go_wp2_with (first
    | (at_range; refine wpList_range_own _ rfl _ 94 rfl 9 _ keyedS Tryz.underlying94 RV mb n _ rfl hown ?_; intro w0 hrg0 hg0 hs0)
    | go_in)
  go_frame
  go_loopw [5] (fun v wr => ∃ (left : Lit → Bool) (cnt : Nat) (sn us : List (List UInt8)), wr.ranges Tryz.prog 9 RV mb w.heap.size n D left cnt ∧ RowX wr (w.heap.size + 1) 9 1 v (us.map fun x => [kS x]) ∧ Hid (Seen M d.data.toList left sn us) ∧ Hid (∀ kl, left kl = true → Maps.has D kl = true) ∧ Hid (Below w.heap.size w wr) ∧ Hid (w.heap.size + 1 ≤ wr.heap.size))
    (fun _ wr => wr.rangeLeft mb w.heap.size)
  case atStart => exact ⟨_, _, [], [], hrg0, RowX.nil_ _ _ _ _, Seen.start HF.out HD.out, fun kl h => h, below_of_none hg0, by rw [hs0]; exact Nat.le_refl _⟩
  case round =>
    obtain ⟨left, cnt, sn, us, hrg, hrow, HSN, HS, HB, HSZ⟩ := hrel
    have HROW := Lib.hid hrow
    clear hrow
    go_wp2_with (first
      | (at_next; refine wpList_next_ranges _ rfl _ rfl 9 keyedS RV Value.string id (fun key kl h => by obtain ⟨s, rfl, -, -⟩ := string_of_keyOf Tryz.underlying9 h; exact ⟨s, rfl⟩) (fun v y _ => ⟨v, rfl⟩) mb w.heap.size n _ _ _ rfl hrg ?_ ?_)
      | go_in)
    · intro hc0 hl0
      have HNM := Lib.hid (show Named M d.data.toList (us.mergeSort (fun x y => decide (x ≤ y))) from ⟨(List.mergeSort_perm _ _).trans (HSN.out.done HF.out hl0), sorted_merge us⟩)
      have hl2 : (us.mergeSort fun x y => decide (x ≤ y)).length = us.length := List.length_mergeSort us
      have HUL := Lib.hid (show us.length ≤ 1000000 by
        rw [HSN.out.us, List.length_map]
        have h1 := (List.perm_ext_iff_of_nodup HSN.out.nd HF.out.1).2 fun x => ⟨fun hx => (HSN.out.mem x hx).1, fun hx => by
          apply Classical.byContradiction
          intro hn
          have := HSN.out.rest x hx hn
          rw [hl0] at this
          cases this⟩
        have h2 := h1.length_eq
        have h3 := List.length_filter_le (kidB d.data.toList) sn
        have h4 := HLEN.out
        unfold keysM at h2
        rw [List.length_map] at h2
        omega)
      have hrk := row_keys HROW.out
      clear hrg
      rcases hrk.2 with ⟨rfl, hk0⟩ | ⟨g, cap, cur, rfl, hbase, hb, h1, h2, h3, h4⟩
      · obtain rfl : us = [] := List.eq_nil_of_length_eq_zero hk0
        clear hrk
        go_wp2_with (go_at_call 86; refine (sh_slices_Sort_string_none none 0 _).mono ?_; rintro e w' ⟨rfl, rfl⟩)
        go_ret
        have hnm := HNM.out
        rw [List.mergeSort_nil] at hnm
        exact ⟨.slice none 0 0, [], rfl, hnm, World.ownsRow_nil _ _ _ _, HB.out⟩
      · have hH := holds_of_block hb (by simpa using h4)
        have hgl : g < wr.heap.size := (Array.getElem?_eq_some_iff.1 hb).1
        have hsort := Lib.hid (sh_slices_Sort_string g 0 cap us wr hH hgl (by have := HUL.out; omega))
        have HRS := Lib.hid (And.intro hb (And.intro h1 (And.intro h2 h3)))
        clear hrk hH hb h3 h4
        go_wp2_with (go_at_call 86; refine hsort.out.mono ?_; rintro e w' ⟨rfl, nn, ws, rfl⟩)
        go_ret
        have hg := grownBy_sorted (w := wr) (g := g) (n := nn) (os := ws) (us.mergeSort fun x y => decide (x ≤ y)).toArray
        have hro := ownsRow_sorted (n := nn) (os := ws) (ts := us.mergeSort fun x y => decide (x ≤ y)) hl2 (show w.heap.size ≤ g by omega) HRS.out.1 HRS.out.2.1 HRS.out.2.2.1 HRS.out.2.2.2
        exact ⟨_, us.mergeSort (fun x y => decide (x ≤ y)), rfl, HNM.out, by rw [hl2]; exact hro, HB.out.trans (below_grown hg (by omega) (by have := HSZ.out; omega))⟩
    · intro x c kl y ps w1 cnt1 hkx hlx hy hat hrg1 hlt1 hg1 hs1 hen
      have hm0 : wr.rangeLeft mb w.heap.size = cnt := hrg.left_eq
      have hm1 : w1.rangeLeft mb w.heap.size = cnt1 := hrg1.left_eq
      have HB1 := Lib.hid (HB.out.trans (below_grown hg1 (Nat.le_refl _) HB.out.size))
      have HR1 := Lib.hid hrg1
      obtain ⟨hin, rfl⟩ := entry_in HF.out HD.out hkx (HS.out _ hlx)
      have HS1 : Hid (∀ kl', (left kl' && !kl'.sameKey (litOf Tryz.prog 9 kS x.data.toList)) = true → Maps.has D kl' = true) := fun kl' h => HS.out _ (by simp at h; exact h.1)
      have HSN1 := Lib.hid (HSN.out.step HF.out hin hlx)
      have HROW1 := Lib.hid (HROW.out.row hg1 (fun e => by have := HROW.out.lt _ e; omega))
      have HSZ1 := Lib.hid (show w.heap.size + 1 ≤ w1.heap.size by rw [hs1]; exact HSZ.out)
      have HUL := Lib.hid (show us.length ≤ 1000000 by
        rw [HSN.out.us, List.length_map]
        have h1 : sn.length ≤ (keysM M).length := nodup_le HSN.out.nd fun x hx => (HSN.out.mem x hx).1
        have h3 := List.length_filter_le (kidB d.data.toList) sn
        have h4 := HLEN.out
        unfold keysM at h1
        rw [List.length_map] at h1
        omega)
      by_cases hx : x = ⟨#[47]⟩
      · subst hx
        have hkb : kidB d.data.toList (⟨#[47]⟩ : ByteArray).data.toList = false := rfl
        have hsn2 := HSN1.out
        rw [hkb, if_neg (by decide), List.append_nil] at hsn2
        have HSN2 := Lib.hid hsn2
        clear hrg hrg1 HB hat hy hlx HS hkx hin HSN1 hsn2 hkb
        go_wp2
        exact ⟨⟨_, _, _, _, HR1.out, HROW1.out, HSN2.out, HS1, HB1.out, HSZ1.out⟩, by rw [hm1, hm0]; exact hlt1⟩
      · have n1 := str_ne hx
        have n2 : (x.toList == [47]) = false := by rw [show ([47] : List UInt8) = (⟨#[47]⟩ : ByteArray).toList from by rw [ByteArray.toList_eq]]; exact n1
        have hx47 : x.data.toList ≠ [47] := fun e => hx (bytes_of e)
        obtain ⟨nd, hmem⟩ := mem_keysM.1 hin
        obtain ⟨hxl, a, b, hab, hb⟩ := HSL.out _ _ hmem hx47
        obtain ⟨r, hr⟩ : ∃ r : ByteArray, r = ⟨(parOf x.data.toList).toArray⟩ := ⟨_, rfl⟩
        have pa : ∀ W, Calls Tryz.prog 84 #[.string x] W fun e w' => e = .returned (.string r) ∧ w' = W := fun W => (parent_any x a b hab hb hxl W).mono (by
          rintro e w' ⟨r', rfl, hr', rfl⟩
          rw [← hab, ← parOf_eq hab hb] at hr'
          exact ⟨by rw [bytes_of hr', hr], rfl⟩)
        have PA := Lib.hid pa
        clear pa
        have hrp : r.data.toList = parOf x.data.toList := by rw [hr]
        by_cases hp : parOf x.data.toList = d.data.toList
        · have hrd : r = d := by rw [bytes_of hrp, hp]
          have hkb : kidB d.data.toList x.data.toList = true := by unfold kidB; rw [decide_eq_true hx47, decide_eq_true hp]; rfl
          have hsn2 := HSN1.out
          rw [hkb, if_pos rfl, lastOf_eq hab hb] at hsn2
          have HSN2 := Lib.hid hsn2
          have LA := Lib.hid (fun W => last_any x a b hab hb hxl W)
          rw [hrd] at PA
          clear hrg hrg1 HB hat hy hlx HS hkx hx HSN1 hsn2 hkb hp hrp hr hrd hab hb hxl hmem hin hx47
          go_wp2_with (first
            | (go_at_call 84; refine (PA.out _).mono ?_; rintro e w' ⟨rfl, rfl⟩)
            | (go_at_call 85; refine (LA.out _).mono ?_; rintro e w2 ⟨r2, rfl, hr2, hb2⟩; have g2 := none_of_below hb2 (Nat.le_refl _); have RL2 := Lib.hid (HROW1.out.none g2); have RG2 := Lib.hid (HR1.out.kept g2 (by simp) (by simp)); have HB2 := Lib.hid (HB1.out.trans (hb2.mono HB1.out.size)); have HSZ2 := Lib.hid (Nat.le_trans HSZ1.out g2.size); have HR2 := Lib.hid (show Value.string r2 = kS b by rw [bytes_of hr2, kS]); clear g2 hb2 hr2)
            | (refine wpList_appX rowS rfl (.tmp 24) (.tmp 27) rfl (p := [.string r2]) (b := w2.heap.size) (off := 0) (c := 1) (RL2.out.none (grown_alloc w2 (.cells #[.string r2] 9) none)) (fun j v hj => by have := (CB.new w2 9 [.string r2]).at_ hj; rwa [Nat.zero_add]) rfl (by simp [Value.oneCell']) rfl rfl (by rw [List.length_map]; have := HUL.out; omega) (by rw [World.size_alloc]; have := HSZ2.out; omega) ?_
               intro v' w5 h5 g5 a5
               have RL5 : Hid (RowX w5 (w.heap.size + 1) 9 1 v' ((us ++ [b]).map fun x => [kS x])) := by (rw [List.map_append, List.map_cons, List.map_nil, ← HR2.out]; exact h5)
               have RG5 := Lib.hid ((RG2.out.kept (grown_alloc w2 (.cells #[.string r2] 9) none) (by simp) (by simp)).kept g5 (World.row_ne_low' RL2.out (by omega)) (World.row_ne_low' RL2.out (by omega)))
               have HB5 := Lib.hid ((HB2.out.alloc HB2.out.size (.cells #[.string r2] 9)).trans (below_row g5 RL2.out (by omega) (by rw [World.size_alloc]; have := HB2.out.size; omega)))
               have HSZ5 := Lib.hid (Nat.le_trans HSZ2.out (Nat.le_trans (by rw [World.size_alloc]; omega) g5.size))
               clear h5 g5 a5))
          exact ⟨⟨_, _, _, _, RG5.out, RL5.out, HSN2.out, HS1, HB5.out, HSZ5.out⟩, by rw [RG5.out.left_eq, hm0]; exact hlt1⟩
        · have hrd := str_ne (show r ≠ d from fun e => hp (by rw [← hrp, e]))
          have hkb : kidB d.data.toList x.data.toList = false := by unfold kidB; rw [decide_eq_true hx47, decide_eq_false hp]; rfl
          have hsn2 := HSN1.out
          rw [hkb, if_neg (by decide), List.append_nil] at hsn2
          have HSN2 := Lib.hid hsn2
          clear hrg hrg1 HB hat hy hlx HS hkx hx HSN1 hsn2 hkb hp hrp hr hab hb hxl hmem hin hx47
          go_wp2_with (go_at_call 84; refine (PA.out _).mono ?_; rintro e w' ⟨rfl, rfl⟩)
          exact ⟨⟨_, _, _, _, HR1.out, HROW1.out, HSN2.out, HS1, HB1.out, HSZ1.out⟩, by rw [hm1, hm0]; exact hlt1⟩
end Go.Proofs.YtlkchajkhplapaaGreatDoor
namespace Go.Proofs.YtlkchajkhplapaaGreatDoor
open Go.RowKit Go.Maps Go.WideMaps

/-- What List answers, but for the names. -/
def listR (M : List (List UInt8 × Nd)) (who : ByteArray) (p : List UInt8) : Int :=
  match (findR M who p).1 with
  | none => (findR M who p).2
  | some n => if n.dir = false then 112 else if mayOk who 4 n.owner n.mode = false then 114 else 0
set_option maxHeartbeats 2000000 in
theorem list_any (w : World) (tb mb : Nat) (M : List (List UInt8 × Nd)) (hT : TS w tb mb M) (hlen : M.length ≤ 1000000) (hsl : Slashed M) (who s : ByteArray) (p : List UInt8) (hp : s.data.toList = p) (hs : p.length ≤ 100000) :
    Calls Tryz.prog 38 #[.pointer (some ⟨tb, 0, none⟩), .string who, .string s] w fun e w' => Below w.heap.size w w' ∧
      ((listR M who p ≠ 0 ∧ e = .returned (.tuple #[.slice none 0 0, .int .i64 (listR M who p)])) ∨ (listR M who p = 0 ∧ ∃ v ss, e = .returned (.tuple #[v, .int .i64 0]) ∧ Named M p ss ∧ w'.ownsRow w.heap.size 9 1 v ss.length (ss.map Go.Proofs.encStr))) := by
  have CA := find_any w tb mb M hT.tr who s p hp hs
  rcases findR_cases M who p with ⟨c, h0, hf⟩ | ⟨n, hin, hf⟩
  · have hR : listR M who p = c := by unfold listR; rw [hf]
    rw [hf] at CA
    have hcq : (c == 0) = false := beq_eq_false_iff_ne.2 h0
    have CC := Lib.hid CA
    have H0 := Lib.hid h0
    rw [hR]
    clear CA hT hp hs hR hf hsl hlen h0
    go_enter Tryz.func38, Tryz.ntmps38
    go_wp2_with (go_at_call 58; refine CC.out.mono ?_; rintro e w1 ⟨rfl, hb1⟩; rw [ptrOf])
    go_ret2
    exact ⟨hb1, .inl ⟨H0.out, rfl⟩⟩
  · rw [hf] at CA
    have hN := hT.tr.nodes _ _ hin
    have hlt := hN.1.lt
    have CC := Lib.hid CA
    have HN := Lib.hid hN
    have HL := Lib.hid hlt
    have hR0 : listR M who p = if n.dir = false then 112 else if mayOk who 4 n.owner n.mode = false then 114 else 0 := by unfold listR; rw [hf]
    cases hd : n.dir with
    | false =>
      rw [if_pos hd] at hR0
      rw [hR0]
      have HD := Lib.hid hd
      clear CA hT hp hs hR0 hf hN hlt hin hd hsl hlen
      go_enter Tryz.func38, Tryz.ntmps38
      go_wp2_with (go_at_call 58; refine CC.out.mono ?_; rintro e w1 ⟨rfl, hb1⟩; rw [ptrOf, vN]; have HN1 := Lib.hid (HN.out.1.below hb1 HL.out); have HB1 := Lib.hid hb1; have k1 := HN1.out.at_ (i := 1) (v := .bool false) (by show some (Value.bool n.dir) = _; rw [HD.out]); clear hb1)
      go_ret2
      exact ⟨HB1.out, .inl ⟨by decide, rfl⟩⟩
    | true =>
      rw [if_neg (by rw [hd]; decide)] at hR0
      have HD := Lib.hid hd
      cases hm : mayOk who 4 n.owner n.mode with
      | false =>
        rw [if_pos hm] at hR0
        rw [hR0]
        have HM := Lib.hid hm
        clear CA hT hp hs hR0 hf hN hlt hin hd hm hsl hlen
        go_enter Tryz.func38, Tryz.ntmps38
        go_wp2_with (first
          | (go_at_call 58; refine CC.out.mono ?_; rintro e w1 ⟨rfl, hb1⟩; rw [ptrOf, vN]; have HN1 := Lib.hid (HN.out.1.below hb1 HL.out); have HB1 := Lib.hid hb1; have k1 := HN1.out.at_ (i := 1) (v := .bool true) (by show some (Value.bool n.dir) = _; rw [HD.out]); clear hb1)
          | (go_at_call 63; refine (may_any _ who 4 n.blk _ n.owner n.dir n.mode n.data HN1.out HN.out.2 (.inr (.inr rfl))).mono ?_; rintro e w2 ⟨rfl, rfl⟩; rw [HM.out]))
        go_ret2
        exact ⟨HB1.out, .inl ⟨by decide, rfl⟩⟩
      | true =>
        rw [if_neg (by rw [hm]; decide)] at hR0
        rw [hR0]
        have HM := Lib.hid hm
        have HT := Lib.hid hT
        have HLE := Lib.hid hlen
        have HSL := Lib.hid hsl
        have HP := Lib.hid hp
        clear CA hT hp hs hR0 hf hN hlt hin hd hm hlen hsl
        go_enter Tryz.func38, Tryz.ntmps38
        go_wp2_with (first
          | (go_at_call 58; refine CC.out.mono ?_; rintro e w1 ⟨rfl, hb1⟩; rw [ptrOf, vN]; have HN1 := Lib.hid (HN.out.1.below hb1 HL.out); have HB1 := Lib.hid hb1; have k1 := HN1.out.at_ (i := 1) (v := .bool true) (by show some (Value.bool n.dir) = _; rw [HD.out]); clear hb1)
          | (go_at_call 63; refine (may_any _ who 4 n.blk _ n.owner n.dir n.mode n.data HN1.out HN.out.2 (.inr (.inr rfl))).mono ?_; rintro e w2 ⟨rfl, rfl⟩; rw [HM.out])
          | (go_at_call 52; refine (names_any _ tb mb M (HT.out.tr.below HB1.out HT.out.tr.lts.1 HT.out.tr.lts.2.1 (fun q m hq => (HT.out.tr.nodes q m hq).1.lt)) HLE.out HSL.out s).mono ?_; rintro e w3 ⟨v3, ss, rfl, hn3, ho3, hb3⟩; have HO3 := Lib.hid ho3; have HB3 := Lib.hid hb3; have HN3 := Lib.hid hn3; clear ho3 hb3 hn3))
        go_ret2
        refine ⟨HB1.out.trans (HB3.out.mono HB1.out.size),   .inr ⟨by first | rfl | trivial, v3, ss, rfl, by rw [← HP.out]; exact HN3.out, ?_⟩⟩
        exact ⟨HO3.out.1, HO3.out.2.imp id fun ⟨g, cap, cur, h1, h2, h3⟩ => ⟨g, cap, cur, h1, Nat.le_trans HB1.out.size h2, h3⟩⟩
end Go.Proofs.YtlkchajkhplapaaGreatDoor
namespace Go.Proofs.YtlkchajkhplapaaGreatDoor
open Go.RowKit Go.Maps Go.WideMaps

theorem results_C2 {w : World} {cs : List Value} {fn : Func} {p q : Tmp} {n g : Nat} {t ty : TypeId} (hr : fn.results = #[.cell p ty, .tmp q]) (tmps : Array Value) (hT : AggT Tryz.prog ty n) (h : CB w g t cs) (hl : cs.length = n) (hp : tmps.getD p undef = .pointer (some ⟨g, 0, none⟩)) :
    (results fn tmps).run Tryz.prog w = .ok (.tuple #[.agg cs.toArray, tmps.getD q undef]) w := by
  have hp' : tmps[p]?.getD undef = .pointer (some ⟨g, 0, none⟩) := by simpa using hp
  have hld := run_loadC (P := Tryz.prog) (p := cs) (off := 0) hT h (by rw [List.drop_zero]; exact List.take_of_length_le (by omega)) (by omega)
  simp [results, hr, hp', asAddr, hld]
set_option maxHeartbeats 2000000 in
theorem stat_any (w : World) (tb mb : Nat) (M : List (List UInt8 × Nd)) (hT : TS w tb mb M) (hsh : Short M) (who s : ByteArray) (p : List UInt8) (hp : s.data.toList = p) (hs : p.length ≤ 100000) :
    Calls Tryz.prog 37 #[.pointer (some ⟨tb, 0, none⟩), .string who, .string s] w fun e w' => Below w.heap.size w w' ∧ ((∃ c, c ≠ 0 ∧ findR M who p = (none, c) ∧ e = .returned (.tuple #[.agg zeroNd.toArray, .int .i64 c])) ∨
      (∃ n A c l, (p, n) ∈ M ∧ findR M who p = (some n, 0) ∧ OwnB w 0 5 n.data l ∧ e = .returned (.tuple #[.agg (nodeC ⟨p.toArray⟩ n.dir n.owner n.mode (.slice A l.length c)).toArray, .int .i64 0]) ∧ OwnB w' w.heap.size 5 (.slice A l.length c) l)) := by
  obtain ⟨wa, hwa⟩ : ∃ x, x = w.alloc (.cells zeroNd.toArray 63) := ⟨_, rfl⟩
  have hba : Below w.heap.size w wa := by rw [hwa]; exact (Below.refl _ w).alloc (Nat.le_refl _) _
  have hsz : wa.heap.size = w.heap.size + 1 := by rw [hwa, World.size_alloc]
  have hca : CB wa w.heap.size 63 zeroNd := by rw [hwa]; exact CB.new _ _ _
  have CA := find_any wa tb mb M (hT.tr.below hba hT.tr.lts.1 hT.tr.lts.2.1 hT.tr.lts.2.2) who s p hp hs
  have HBA := Lib.hid hba
  have HSZ := Lib.hid hsz
  have HCA := Lib.hid hca
  have HWA := Lib.hid hwa
  rcases findR_cases M who p with ⟨c, h0, hf⟩ | ⟨n, hin, hf⟩
  · rw [hf] at CA
    have hcq : (c == 0) = false := beq_eq_false_iff_ne.2 h0
    have CC := Lib.hid CA
    have H0 := Lib.hid h0
    have HF := Lib.hid hf
    clear CA hT hp hs hf hsh h0 hba hsz hca hwa
    go_enter Tryz.func37, Tryz.ntmps37
    go_wp2_with (first
      | (go_at_call 58
         rw [show w.alloc (.cells #[.string ⟨#[]⟩, .bool false, .string ⟨#[]⟩, .int .i64 0, .slice none 0 0] 63) = wa from HWA.out.symm]
         refine CC.out.mono ?_
         rintro e w1 ⟨rfl, hb1⟩
         rw [ptrOf]
         have HB1 := Lib.hid (HBA.out.trans (hb1.mono (by have := HSZ.out; omega)))
         have C1 := Lib.hid (HCA.out.below hb1 (by have := HSZ.out; omega))
         clear hb1)
      | (refine wpList_storeC (off := 0) (p := zeroNd) aggNd.hi rfl (.tmp 6) (.tmp 19) rfl (.agg zeroNd.toArray) rfl (nd_one _ _ _ _ _ _ _) C1.out rfl (Nat.le_refl _) (by first | rfl | go_simp) (by first | rfl | go_simp) ?_
         intro w4 h4 g4
         have C4 := Lib.hid (show CB w4 w.heap.size 63 zeroNd from h4)
         have W4 := Lib.hid (none_rowB (none_of_below HB1.out (Nat.le_refl _)) g4 (fun g hg => by injection hg with hg; omega))
         clear h4 g4))
    refine bodyPost_ret (results_C2 rfl _ aggNd C4.out rfl (by first | rfl | go_simp)) rfl ?_
    exact ⟨below_of_none W4.out, .inl ⟨c, H0.out, HF.out, rfl⟩⟩
  · rw [hf] at CA
    have hN := hT.tr.nodes _ _ hin
    obtain ⟨l, hol, hll⟩ := hT.row _ _ hin
    obtain ⟨A, cap, hv, hrb, -⟩ := hol.shape
    rw [hv] at hN
    have hpz : (⟨p.toArray⟩ : ByteArray).size ≤ 1000000 := by show p.toArray.size ≤ 1000000; rw [List.size_toArray]; omega
    have CC := Lib.hid CA
    have HN := Lib.hid hN
    have HL := Lib.hid hN.1.lt
    have HIN := Lib.hid hin
    have HRB := Lib.hid hrb
    have HOL := Lib.hid hol
    have HLL := Lib.hid hll
    have HOZ := Lib.hid (hsh _ _ hin).2
    have HPZ := Lib.hid hpz
    have HF := Lib.hid hf
    clear CA hT hp hs hf hN hin hv hrb hol hll hsh hpz hba hsz hca hwa
    go_enter Tryz.func37, Tryz.ntmps37
    go_wp2_with (first
      | (go_at_call 58
         rw [show w.alloc (.cells #[.string ⟨#[]⟩, .bool false, .string ⟨#[]⟩, .int .i64 0, .slice none 0 0] 63) = wa from HWA.out.symm]
         refine CC.out.mono ?_
         rintro e w1 ⟨rfl, hb1⟩
         rw [ptrOf, vN]
         have HB1 := Lib.hid (HBA.out.trans (hb1.mono (by have := HSZ.out; omega)))
         have C1 := Lib.hid (HCA.out.below hb1 (by have := HSZ.out; omega))
         have HN1 := Lib.hid (HN.out.1.below HB1.out HL.out)
         have S1 := Lib.hid (show w.heap.size < w1.heap.size by have := C1.out.lt; omega)
         have k0 := HN1.out.at_ (i := 0) (v := .string ⟨p.toArray⟩) rfl
         clear hb1)
      | (refine wpList_loadC (off := 0) (p := nodeC ⟨p.toArray⟩ n.dir n.owner n.mode (.slice A l.length cap)) aggNd rfl (.tmp 22) rfl HN1.out rfl (Nat.le_refl _) (by first | rfl | go_simp) ?_)
      | (go_at_call 74
         refine (apart_any _ ⟨p.toArray⟩ n.owner n.dir n.mode A l cap l.length rfl ((HRB.out.below HB1.out).more HB1.out.size) HLL.out HPZ.out HOZ.out).mono ?_
         rintro r w3 ⟨A3, c3, rfl, o3, b3⟩
         have O3 := Lib.hid o3
         have HB3 := Lib.hid (HB1.out.trans (b3.mono HB1.out.size))
         have C3 := Lib.hid (C1.out.below b3 C1.out.lt)
         clear o3 b3)
      | (refine wpList_storeC (off := 0) (p := nodeC ⟨p.toArray⟩ n.dir n.owner n.mode (.slice A3 l.length c3)) aggNd.hi rfl (.tmp 6) (.tmp 24) rfl (.agg (nodeC ⟨p.toArray⟩ n.dir n.owner n.mode (.slice A3 l.length c3)).toArray) rfl (nd_one _ _ _ _ _ _ _) C3.out rfl (Nat.le_refl _) (by first | rfl | go_simp) (by first | rfl | go_simp) ?_
         intro w4 h4 g4
         have C4 := Lib.hid (show CB w4 w.heap.size 63 (nodeC ⟨p.toArray⟩ n.dir n.owner n.mode (.slice A3 l.length c3)) from h4)
         have W4 := Lib.hid (none_rowB (none_of_below HB3.out (Nat.le_refl _)) g4 (fun g hg => by injection hg with hg; omega))
         have O4 := Lib.hid (OwnB.base_ (World.ownsRow.kept O3.out g4 (.inr (fun e => by have := (O3.out.lt _ e).1; have := S1.out; omega))) HB1.out.size)
         clear h4 g4))
    refine bodyPost_ret (results_C2 rfl _ aggNd C4.out rfl (by first | rfl | go_simp)) rfl ?_
    exact ⟨below_of_none W4.out, .inr ⟨n, A3, c3, l, HIN.out, HF.out, HOL.out, rfl, O4.out⟩⟩
end Go.Proofs.YtlkchajkhplapaaGreatDoor
