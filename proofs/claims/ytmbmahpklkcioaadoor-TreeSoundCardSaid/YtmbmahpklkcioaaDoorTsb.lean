/- Remove: what it answers, where no node has the one that goes as its parent. -/
import Derived.Test.YtmbmahpklkcioaaDoorTsa
import Derived.Test.YtmbmahpklkcioaaDoorTrv
namespace Go.Proofs.YtmbmahpklkcioaaDoor
open Go.RowKit Go.Maps Go.WideMaps

/-- What Remove answers, as long as it doesn't look for names. -/
def removeC (M : List (List UInt8 × Nd)) (who : ByteArray) (p : List UInt8) : Int :=
  if (comeR M who p).2 ≠ 0 then (comeR M who p).2 else if p = [47] then 1 else
  match M.lookup p, M.lookup (parOf p) with
  | none, _ => 110
  | some _, none => 114
  | some _, some d => if mayOk who 2 d.owner d.mode = false then 114 else 0
theorem parent_in' {M : List (List UInt8 × Nd)} {who : ByteArray} {p : List UInt8} (h : (comeR M who p).2 = 0) (hne : p ≠ [47]) :
    ∃ a b n, p = a ++ 47 :: b ∧ (47 : UInt8) ∉ b ∧ parOf p = p.take (max a.length 1) ∧ M.lookup (parOf p) = some n ∧ n.dir = true := by
  obtain ⟨h1, h2⟩ := come_path h
  obtain ⟨a, b, hab, hb, hin⟩ := parent_on h1 hne
  obtain ⟨n, hl, hd⟩ := comeE_all h2 _ hin
  rw [← parOf_eq hab hb] at hin hl
  exact ⟨a, b, n, hab, hb, parOf_eq hab hb, hl, hd⟩
theorem mem_without {M : List (List UInt8 × Nd)} {p q : List UInt8} {n : Nd} (h : (q, n) ∈ withoutM M p) : (q, n) ∈ M ∧ q ≠ p := by
  obtain ⟨h1, h2⟩ := List.mem_filter.1 h
  exact ⟨h1, by simpa using h2⟩
/-- A node goes. -/
theorem TS.del {w w' : World} {tb mb : Nat} {M : List (List UInt8 × Nd)} (h : TS w tb mb M) {p : List UInt8} (hm : MT Tryd.prog 9 kS vN w' mb (withoutM M p)) (hg : w.grownBy w' (some mb)) : TS w' tb mb (withoutM M p) := by
  obtain ⟨es, cl, hmb⟩ := h.tr.map.block
  have htb : CB w tb 53 [.map (some mb)] := h.tr.top
  refine ⟨⟨htb.grown hg (htb.ne_map hmb), hm, fun q n hq => ?_⟩, fun q n q' n' hq hq' he => h.sep _ _ _ _ (mem_without hq).1 (mem_without hq').1 he, fun q n hq => ?_, fun q n q' n' k hq hq' hk hk' => h.rsep _ _ _ _ k (mem_without hq).1 (mem_without hq').1 hk hk'⟩
  · have hq := (mem_without hq).1
    exact ⟨(h.tr.nodes q n hq).1.grown hg ((h.tr.nodes q n hq).1.ne_map hmb), (h.tr.nodes q n hq).2⟩
  · obtain ⟨l', h1, h2⟩ := h.row q n (mem_without hq).1
    exact ⟨l', World.ownsRow.kept h1 hg (.inr (h1.ne_map hmb)), h2⟩

set_option maxRecDepth 10000 in
set_option maxHeartbeats 4000000 in
theorem remove_no (w : World) (tb mb : Nat) (M : List (List UInt8 × Nd)) (hT : TS w tb mb M) (who s : ByteArray) (p : List UInt8) (hp : s.data.toList = p) (hs : p.length ≤ 100000) (hc : removeC M who p ≠ 0) :
    Calls Tryd.prog 14 #[.pointer (some ⟨tb, 0, none⟩), .string who, .string s] w fun e w' => e = .returned (.int .i64 (removeC M who p)) ∧ Below w.heap.size w w' := by
  have CA := come_any w tb mb M hT.tr who s p hp hs
  obtain ⟨c, hcc⟩ : ∃ c, c = (comeR M who p).2 := ⟨_, rfl⟩
  by_cases h0 : c ≠ 0
  · have hR : removeC M who p = c := by unfold removeC; rw [← hcc, if_pos h0]
    rw [comeR_no (by rw [← hcc]; exact h0), ← hcc] at CA
    have hcq : (c == 0) = false := beq_eq_false_iff_ne.2 h0
    have CC := Lib.hid CA
    rw [hR]
    clear CA hcc hT hp hs hR hc
    go_enter Tryd.func14, Tryd.ntmps14
    go_wp2_with (go_at_call 21; refine CC.out.mono ?_; rintro e w1 ⟨rfl, hb1⟩)
    go_ret
    exact ⟨rfl, hb1⟩
  have h0' : c = 0 := Classical.byContradiction h0
  have hce : (comeR M who p).2 = 0 := by rw [← hcc]; exact h0'
  rw [comeR_ok hce, hce] at CA
  by_cases h1 : p = [47]
  · have hR : removeC M who p = 1 := by unfold removeC; rw [hce, if_neg (by decide), if_pos h1]
    have hse : s = ⟨#[47]⟩ := by rw [bytes_of hp, h1]
    rw [hR]
    subst hse
    have CC := Lib.hid CA
    clear CA hcc hT hp hs hR h0 h0' hce h1 hc
    go_enter Tryd.func14, Tryd.ntmps14
    go_wp2_with (go_at_call 21; refine CC.out.mono ?_; rintro e w1 ⟨rfl, hb1⟩)
    go_ret
    exact ⟨rfl, hb1⟩
  have hsn : s ≠ ⟨#[47]⟩ := fun e => h1 (by rw [← hp, e])
  have n1 := str_ne hsn
  have n2 : (s.toList == [47]) = false := by rw [show ([47] : List UInt8) = (⟨#[47]⟩ : ByteArray).toList from by rw [ByteArray.toList_eq]]; exact n1
  cases hl : M.lookup p with
  | none =>
    have hR : removeC M who p = 110 := by unfold removeC; rw [hce, if_neg (by decide), if_neg h1, hl]
    rw [hl, ptrOf] at CA
    rw [hR]
    have CC := Lib.hid CA
    clear CA hcc hT hp hs hR hl h0 h0' hce h1 hc hsn
    go_enter Tryd.func14, Tryd.ntmps14
    go_wp2_with (go_at_call 21; refine CC.out.mono ?_; rintro e w1 ⟨rfl, hb1⟩)
    go_ret
    exact ⟨rfl, hb1⟩
  | some n0 =>
    obtain ⟨a, b, n, hab, hb, hpo, hn, -⟩ := parent_in' hce h1
    have hR : removeC M who p = if mayOk who 2 n.owner n.mode = false then 114 else 0 := by unfold removeC; rw [hce, if_neg (by decide), if_neg h1, hl, hn]
    rw [hR] at hc ⊢
    have hm : mayOk who 2 n.owner n.mode = false := by
      cases hm : mayOk who 2 n.owner n.mode with
      | false => rfl
      | true => rw [if_neg (by rw [hm]; decide)] at hc; exact absurd rfl hc
    rw [if_pos hm]
    rw [hl, ptrOf, vN] at CA
    have CC := Lib.hid CA
    have MC := Lib.hid (fun (W : World) (hT' : TS W tb mb M) => mayChange_any W tb mb M hT'.tr who s a b (by rw [hp, hab]) hb (show s.data.toList.length ≤ 1000000 by rw [hp]; omega) n (by rw [← hab, ← parOf_eq hab hb]; exact hn))
    rw [hm] at MC
    have HT := Lib.hid hT
    clear CA hcc hT hp hs hR hl h0 h0' hce h1 hc hsn hab hb hpo hn hm
    go_enter Tryd.func14, Tryd.ntmps14
    go_wp2_with (first
      | (go_at_call 21; refine CC.out.mono ?_; rintro e w1 ⟨rfl, hb1⟩; have HB1 := Lib.hid hb1; clear hb1)
      | (go_at_call 27; refine (MC.out _ (HT.out.below HB1.out)).mono ?_; rintro e w2 ⟨rfl, q2, hq2⟩; have HB2 := Lib.hid (show Below w.heap.size w w2 by rw [hq2]; exact HB1.out.trans ⟨rfl, rfl, rfl, Nat.le_refl _, fun _ _ => rfl⟩); clear hq2))
    go_ret
    exact ⟨rfl, HB2.out⟩

set_option maxRecDepth 10000 in
set_option maxHeartbeats 4000000 in
theorem remove_ok (w : World) (tb mb : Nat) (M : List (List UInt8 × Nd)) (hT : TS w tb mb M) (who s : ByteArray) (p : List UInt8) (hp : s.data.toList = p) (hs : p.length ≤ 100000) (hc : removeC M who p = 0) (hk : NoKid M p) :
    Calls Tryd.prog 14 #[.pointer (some ⟨tb, 0, none⟩), .string who, .string s] w fun e w' => e = .returned (.int .i64 0) ∧ TS w' tb mb (withoutM M p) ∧ w.grownBy w' (some mb) := by
  have CA := come_any w tb mb M hT.tr who s p hp hs
  have hce : (comeR M who p).2 = 0 := by
    apply Classical.byContradiction
    intro h
    unfold removeC at hc
    rw [if_pos h] at hc
    exact h hc
  have h1 : p ≠ [47] := by
    intro h
    unfold removeC at hc
    rw [hce, if_neg (by decide), if_pos h] at hc
    cases hc
  have hsn : s ≠ ⟨#[47]⟩ := fun e => h1 (by rw [← hp, e])
  have n1 := str_ne hsn
  have n2 : (s.toList == [47]) = false := by rw [show ([47] : List UInt8) = (⟨#[47]⟩ : ByteArray).toList from by rw [ByteArray.toList_eq]]; exact n1
  obtain ⟨a, b, n, hab, hb, hpo, hn, -⟩ := parent_in' hce h1
  cases hl : M.lookup p with
  | none =>
    unfold removeC at hc
    rw [hce, if_neg (by decide), if_neg h1, hl] at hc
    cases hc
  | some n0 =>
    have hm : mayOk who 2 n.owner n.mode = true := by
      unfold removeC at hc
      rw [hce, if_neg (by decide), if_neg h1, hl, hn] at hc
      simp only at hc
      cases hm : mayOk who 2 n.owner n.mode with
      | true => rfl
      | false => rw [if_pos hm] at hc; cases hc
    rw [comeR_ok hce, hce, hl, ptrOf, vN] at CA
    have CC := Lib.hid CA
    have MC := Lib.hid (fun (W : World) (hT' : TS W tb mb M) => mayChange_any W tb mb M hT'.tr who s a b (by rw [hp, hab]) hb (show s.data.toList.length ≤ 1000000 by rw [hp]; omega) n (by rw [← hab, ← parOf_eq hab hb]; exact hn))
    rw [hm] at MC
    have HT := Lib.hid hT
    have NA := Lib.hid (fun (W : World) (hT' : TS W tb mb M) => names_none W tb mb M hT'.tr s (by rw [hp]; exact hk))
    have HP := Lib.hid hp
    have HOK := Lib.hid (okS p (by omega))
    have hse := Lib.hid (bytes_of hp)
    clear CA hT hp hs hl hce h1 hc hsn hab hb hpo hn hm hk
    go_enter Tryd.func14, Tryd.ntmps14
    go_wp2_with (first
      | (go_at_call 21; refine CC.out.mono ?_; rintro e w1 ⟨rfl, hb1⟩; have HB1 := Lib.hid hb1; clear hb1)
      | (go_at_call 27; refine (MC.out _ (HT.out.below HB1.out)).mono ?_; rintro e w2 ⟨rfl, q2, hq2⟩; have HB2 := Lib.hid (show Below w.heap.size w w2 by rw [hq2]; exact HB1.out.trans ⟨rfl, rfl, rfl, Nat.le_refl _, fun _ _ => rfl⟩); clear hq2)
      | (go_at_call 28; refine (NA.out _ (HT.out.below HB2.out)).mono ?_; rintro e w3 ⟨rfl, hb3⟩; have HB3 := Lib.hid (HB2.out.trans (hb3.mono HB2.out.size)); have HT3 := Lib.hid (HT.out.below HB3.out); have kt := (cell_box HT3.out.tr.top).1; clear hb3)
      | (refine wpList_delM keyedS kS_inj rfl _ _ rfl Tryd.underlying51 HT3.out.tr.map rfl p HOK.out (by show Value.string s = kS p; rw [hse.out]; rfl) ?_; intro w4 h4 g4; have HT4 := Lib.hid (HT3.out.del h4 g4.grown); have G4 := Lib.hid ((grownC_of_below HB3.out (Nat.le_refl _)).trans g4.grown); clear h4 g4))
    go_ret
    exact ⟨rfl, HT4.out, G4.out⟩
end Go.Proofs.YtmbmahpklkcioaaDoor
