/- The document's Chmod, Give, Write. -/
import Derived.Test.YtlkchajkhplapaaGreatDoorUag
namespace Go.Proofs.YtlkchajkhplapaaGreatDoor
open Go.RowKit Go.Maps Go.WideMaps

theorem szI : (Tryz.prog.info? 3).map (·.size) = some 1 := by kernel_rfl
theorem szStr : (Tryz.prog.info? 9).map (·.size) = some 1 := by kernel_rfl
theorem szBy : (Tryz.prog.info? 29).map (·.size) = some 1 := by kernel_rfl
def chmodA (N : List (List UInt8 × Nd)) (who : ByteArray) (p : List UInt8) (m : Int) : Act8 := if (chmodR N who p m).1 = 0 then .mode p m.toNat else .stay
def giveA (N : List (List UInt8 × Nd)) (who : ByteArray) (p : List UInt8) (o : ByteArray) : Act8 := if (giveR N who p).1 = 0 then .owner p o else .stay
theorem mul5 (j q : Nat) : 5 * j + q = j * 5 + q := by omega
set_option maxRecDepth 10000 in
set_option maxHeartbeats 4000000 in
theorem rchmod_any (w : World) (rb : Nat) (v : Value) (N : List (List UInt8 × Nd)) (h : RT w rb v N) (who s : ByteArray) (p : List UInt8) (hp : s.data.toList = p) (hs : p.length ≤ 100000) (m : Int) :
    Calls Tryz.prog 20 #[.pointer (some ⟨rb, 0, none⟩), .string who, .string s, .int .i64 m] w fun e w' => e = .returned (.int .i64 (chmodR N who p m).1) ∧ RDone w.heap.size w w' rb v N (chmodA N who p m) := by
  have CA := rcome_any w rb v N h who s p hp hs
  have HT := Lib.hid h
  obtain rfl := bytes_of hp
  obtain ⟨c, hcc⟩ : ∃ c, (comeR N who p).2 = c := ⟨_, rfl⟩
  rw [hcc] at CA
  have CC := Lib.hid CA
  clear CA
  by_cases h0 : c ≠ 0
  · have hR : (chmodR N who p m).1 = c := by unfold chmodR; rw [hcc, if_pos h0]
    have hcq : (c == 0) = false := beq_eq_false_iff_ne.2 h0
    have HA := Lib.hid (show chmodA N who p m = .stay by unfold chmodA; rw [hR, if_neg h0])
    rw [hR, HA.out]
    clear hcc hp hs hR h
    go_enter Tryz.func20, Tryz.ntmps20
    go_wp2_with (go_at_call 53; refine CC.out.mono ?_; rintro e w1 ⟨rfl, g1⟩; have G1 := Lib.hid g1; clear g1)
    go_ret
    exact ⟨rfl, RDone.stay HT.out G1.out⟩
  have h0' : c = 0 := Classical.byContradiction h0
  subst h0'
  by_cases h1 : 0 ≤ m ∧ m ≤ 63
  · have h1a : ¬ m < 0 := by omega
    have h1b : ¬ 63 < m := by omega
    cases hl : N.lookup p with
    | none =>
      have hR : (chmodR N who p m).1 = 110 := by unfold chmodR; rw [hcc, if_neg (by decide), if_neg (by simpa using h1), hl]
      have HA := Lib.hid (show chmodA N who p m = .stay by unfold chmodA; rw [hR, if_neg (by decide)])
      have HL := Lib.hid hl
      rw [hR, HA.out]
      clear hcc hp hs hR hl h0 h1 h
      go_enter Tryz.func20, Tryz.ntmps20
      go_wp2_with (first
        | (go_at_call 53; refine CC.out.mono ?_; rintro e w1 ⟨rfl, g1⟩; have G1 := Lib.hid g1; clear g1)
        | (go_at_call 54; refine (rat_no _ rb v N (HT.out.far G1.out (by simp) (by simp) (by simp)) p HL.out).mono ?_; rintro e w2 ⟨rfl, rfl⟩))
      go_ret
      exact ⟨rfl, RDone.stay HT.out G1.out⟩
    | some n =>
      obtain ⟨j, hj, hjx⟩ := look_some h.nodup hl
      obtain ⟨g, cap, cs, hv, -, hcb, hnc, hcz, htk, -⟩ := rowX_open h.row (by have := (List.getElem?_eq_some_iff.1 hjx).1; rw [List.length_map]; omega)
      rw [List.length_map] at hv hnc htk
      have hjn := (List.getElem?_eq_some_iff.1 hjx).1
      obtain ⟨nn, hnn⟩ : ∃ nn, N.length = nn := ⟨_, rfl⟩
      have hjc : 5 * j + 4 < cs.length := by rw [hcz]; have := Nat.mul_le_mul_right 5 (show j + 1 ≤ cap by omega); omega
      have htop := h.top
      rw [hv, hnn] at htop
      have HX := Lib.hid hjx
      have HV := Lib.hid hv
      have HCB := Lib.hid hcb
      have HNN := Lib.hid hnn
      have HJC := Lib.hid hjc
      have HTP := Lib.hid htop
      have HJ := Lib.hid hj
      have HE := Lib.hid (fun (q : Nat) (u : Value) (hq : (ndC (p, n))[q]? = some u) => (show cs[5 * j + q]? = some u from by
        have hq5 : q < 5 := (List.getElem?_eq_some_iff.1 hq).1
        have h1 := flatten_at (N.map ndC) j (ndC (p, n)) q h.row.2 (by rw [List.getElem?_map, hjx]; rfl) hq5
        rw [← htk, List.getElem?_take, if_pos (by have := Nat.mul_le_mul_right 5 (show j + 1 ≤ N.length by omega); omega)] at h1
        rw [h1, hq]))
      have hji : (j : Int) < (nn : Int) := by omega
      have hj0 : ¬ (j : Int) < 0 := by omega
      have hn64 : nn ≤ 64 := by rw [← hnn]; exact h.len
      have HLN := Lib.hid (nodup_lookup h.nodup (List.mem_of_getElem? hjx))
      have hR0 : chmodR N who p m = if who ≠ rootB ∧ who ≠ n.owner then (114, none) else (0, some n) := by unfold chmodR; rw [hcc, if_neg (by decide), if_neg (by simpa using h1), hl]
      obtain ⟨x, rfl⟩ : ∃ x : Nat, m = (x : Int) := ⟨m.toNat, by omega⟩
      have hx64 : x < 64 := by omega
      have H64 := Lib.hid hx64
      by_cases hr : who = rootB
      · rw [if_neg (fun e => e.1 hr)] at hR0
        have HA := Lib.hid (show chmodA N who p x = .mode p x by unfold chmodA; rw [hR0, if_pos rfl]; rfl)
        rw [hR0]
        subst hr
        clear hcc hp hs hR0 hl h0 h1 h hx64 hv hcb hnc hcz htk hjn hnn hjc htop hj hjx
        simp only [rootB] at CC ⊢
        go_enter Tryz.func20, Tryz.ntmps20
        go_wp2_with (first
          | (go_at_call 53; refine CC.out.mono ?_; rintro e w1 ⟨rfl, g1⟩; have G1 := Lib.hid g1; clear g1)
          | (go_at_call 54; refine (rat_yes _ rb v N (HT.out.far G1.out (by simp) (by simp) (by simp)) p j HJ.out).mono ?_; rintro e w2 ⟨rfl, rfl⟩
             have HC1 := Lib.hid (HCB.out.kept G1.out)
             have q0 := (HTP.out.kept G1.out).at_ (i := 0) (v := .slice (some ⟨g, 0, none⟩) nn cap) rfl
             have q2 := (HCB.out.kept G1.out).at_ (i := j * 5 + 2) (v := .string n.owner) (by rw [← mul5]; exact HE.out 2 _ rfl))
          | (refine wpList_storeC (off := j * 5 + 3) (p := [.int .i64 x]) szI rfl (.tmp 50) (.tmp 48) rfl (.int .i64 x) rfl (by intro u hu; rw [List.mem_singleton.1 hu]; rfl) HC1.out rfl (by have := HJC.out; omega) (by first | rfl | go_simp) (by first | rfl | go_simp) ?_
             intro w4 h4 g4
             have H4 := Lib.hid h4
             have G4 := Lib.hid g4
             clear h4 g4))
        go_ret
        rw [show chmodA N ⟨#[114, 111, 111, 116]⟩ p x = .mode p x from HA.out]
        obtain ⟨l, hd, hll⟩ := (HT.out.far G1.out (by simp) (by simp) (by simp)).dat _ (List.mem_of_getElem? HX.out)
        have hT := HT.out.far G1.out (by simp) (by simp) (by simp)
        have hv' := HV.out
        subst hv'
        exact ⟨rfl, RDone.back G1.out ⟨_, turn p (fun y => { y with mode := x }) N, rt_turn (j := 3) (u := .int .i64 x) hT HC1.out HX.out (fun y => { y with mode := x }) rfl (by omega) (by rw [mul5]; exact H4.out) G4.out hd hll H64.out, rfl, .inr (.inr ⟨g, rfl, G4.out⟩), .inl rfl⟩⟩
      · have n1 := str_ne hr
        have n1' : (who.toList == [114, 111, 111, 116]) = false := by rw [show ([114, 111, 111, 116] : List UInt8) = rootB.toList from by rw [ByteArray.toList_eq]; rfl]; exact n1
        clear n1
        by_cases ho : who = n.owner
        · rw [if_neg (fun e => e.2 ho)] at hR0
          have how : n.owner = who := ho.symm
          have HA := Lib.hid (show chmodA N who p x = .mode p x by unfold chmodA; rw [hR0, if_pos rfl]; rfl)
          rw [hR0]
          clear ho hr
          clear hcc hp hs hR0 hl h0 h1 h hx64 hv hcb hnc hcz htk hjn hnn hjc htop hj hjx
          go_enter Tryz.func20, Tryz.ntmps20
          go_wp2_with (first
            | (go_at_call 53; refine CC.out.mono ?_; rintro e w1 ⟨rfl, g1⟩; have G1 := Lib.hid g1; clear g1)
            | (go_at_call 54; refine (rat_yes _ rb v N (HT.out.far G1.out (by simp) (by simp) (by simp)) p j HJ.out).mono ?_; rintro e w2 ⟨rfl, rfl⟩
               have HC1 := Lib.hid (HCB.out.kept G1.out)
               have q0 := (HTP.out.kept G1.out).at_ (i := 0) (v := .slice (some ⟨g, 0, none⟩) nn cap) rfl
               have q2 := (HCB.out.kept G1.out).at_ (i := j * 5 + 2) (v := .string who) (by rw [← mul5]; exact HE.out 2 _ (by show some (Value.string n.owner) = _; rw [how])))
            | (refine wpList_storeC (off := j * 5 + 3) (p := [.int .i64 x]) szI rfl (.tmp 50) (.tmp 48) rfl (.int .i64 x) rfl (by intro u hu; rw [List.mem_singleton.1 hu]; rfl) HC1.out rfl (by have := HJC.out; omega) (by first | rfl | go_simp) (by first | rfl | go_simp) ?_
               intro w4 h4 g4
               have H4 := Lib.hid h4
               have G4 := Lib.hid g4
               clear h4 g4))
          go_ret
          rw [HA.out]
          obtain ⟨l, hd, hll⟩ := (HT.out.far G1.out (by simp) (by simp) (by simp)).dat _ (List.mem_of_getElem? HX.out)
          have hT := HT.out.far G1.out (by simp) (by simp) (by simp)
          have hv' := HV.out
          subst hv'
          exact ⟨rfl, RDone.back G1.out ⟨_, turn p (fun y => { y with mode := x }) N, rt_turn (j := 3) (u := .int .i64 x) hT HC1.out HX.out (fun y => { y with mode := x }) rfl (by omega) (by rw [mul5]; exact H4.out) G4.out hd hll H64.out, rfl, .inr (.inr ⟨g, rfl, G4.out⟩), .inl rfl⟩⟩
        · rw [if_pos ⟨hr, ho⟩] at hR0
          have n2 := str_ne ho
          have HA := Lib.hid (show chmodA N who p x = .stay by unfold chmodA; rw [hR0, if_neg (by decide)])
          rw [hR0, HA.out]
          clear hcc hp hs hR0 hl h0 h1 h hx64 hv hcb hnc hcz htk hjn hnn hjc htop hj hjx ho hr
          go_enter Tryz.func20, Tryz.ntmps20
          go_wp2_with (first
            | (go_at_call 53; refine CC.out.mono ?_; rintro e w1 ⟨rfl, g1⟩; have G1 := Lib.hid g1; clear g1)
            | (go_at_call 54; refine (rat_yes _ rb v N (HT.out.far G1.out (by simp) (by simp) (by simp)) p j HJ.out).mono ?_; rintro e w2 ⟨rfl, rfl⟩
               have HC1 := Lib.hid (HCB.out.kept G1.out)
               have q0 := (HTP.out.kept G1.out).at_ (i := 0) (v := .slice (some ⟨g, 0, none⟩) nn cap) rfl
               have q2 := (HCB.out.kept G1.out).at_ (i := j * 5 + 2) (v := .string n.owner) (by rw [← mul5]; exact HE.out 2 _ rfl)))
          go_ret
          exact ⟨rfl, RDone.stay HT.out G1.out⟩
  · have hR : (chmodR N who p m).1 = 1 := by unfold chmodR; rw [hcc, if_neg (by decide), if_pos (by simpa using h1)]
    have HA := Lib.hid (show chmodA N who p m = .stay by unfold chmodA; rw [hR, if_neg (by decide)])
    rw [hR, HA.out]
    clear hcc hp hs hR h h0
    by_cases h1a : m < 0
    · clear h1
      go_enter Tryz.func20, Tryz.ntmps20
      go_wp2_with (go_at_call 53; refine CC.out.mono ?_; rintro e w1 ⟨rfl, g1⟩; have G1 := Lib.hid g1; clear g1)
      go_ret
      exact ⟨rfl, RDone.stay HT.out G1.out⟩
    · have h1b : 63 < m := by omega
      clear h1
      go_enter Tryz.func20, Tryz.ntmps20
      go_wp2_with (go_at_call 53; refine CC.out.mono ?_; rintro e w1 ⟨rfl, g1⟩; have G1 := Lib.hid g1; clear g1)
      go_ret
      exact ⟨rfl, RDone.stay HT.out G1.out⟩
set_option maxRecDepth 10000 in
set_option maxHeartbeats 4000000 in
theorem rgive_any (w : World) (rb : Nat) (v : Value) (N : List (List UInt8 × Nd)) (h : RT w rb v N) (who s o : ByteArray) (p : List UInt8) (hp : s.data.toList = p) (hs : p.length ≤ 100000) :
    Calls Tryz.prog 22 #[.pointer (some ⟨rb, 0, none⟩), .string who, .string s, .string o] w fun e w' => e = .returned (.int .i64 (giveR N who p).1) ∧ RDone w.heap.size w w' rb v N (giveA N who p o) := by
  have CA := rfind_any w rb v N h who s p hp hs
  have HT := Lib.hid h
  obtain rfl := bytes_of hp
  rcases findR_cases N who p with ⟨c, h0, hf⟩ | ⟨n, hin, hf⟩
  · have hR : (giveR N who p).1 = c := by unfold giveR; rw [hf]
    have hcq : (c == 0) = false := beq_eq_false_iff_ne.2 h0
    have HA := Lib.hid (show giveA N who p o = .stay by unfold giveA; rw [hR, if_neg h0])
    rw [show placeR N who p = -1 by unfold placeR; rw [hf], hf] at CA
    have CC := Lib.hid CA
    rw [hR, HA.out]
    clear CA hp hs hR h hf h0
    go_enter Tryz.func22, Tryz.ntmps22
    go_wp2_with (go_at_call 60; refine CC.out.mono ?_; rintro e w1 ⟨rfl, g1⟩; have G1 := Lib.hid g1; clear g1)
    go_ret
    exact ⟨rfl, RDone.stay HT.out G1.out⟩
  · have hl := nodup_lookup h.nodup hin
    obtain ⟨j, hj, hjx⟩ := look_some h.nodup hl
    obtain ⟨g, cap, cs, hv, -, hcb, hnc, hcz, htk, -⟩ := rowX_open h.row (by have := (List.getElem?_eq_some_iff.1 hjx).1; rw [List.length_map]; omega)
    rw [List.length_map] at hv hnc htk
    have hjn := (List.getElem?_eq_some_iff.1 hjx).1
    obtain ⟨nn, hnn⟩ : ∃ nn, N.length = nn := ⟨_, rfl⟩
    have hjc : 5 * j + 4 < cs.length := by rw [hcz]; have := Nat.mul_le_mul_right 5 (show j + 1 ≤ cap by omega); omega
    have htop := h.top
    rw [hv, hnn] at htop
    have HX := Lib.hid hjx
    have HV := Lib.hid hv
    have HCB := Lib.hid hcb
    have HNN := Lib.hid hnn
    have HJC := Lib.hid hjc
    have HTP := Lib.hid htop
    have HJ := Lib.hid hj
    have HE := Lib.hid (fun (q : Nat) (u : Value) (hq : (ndC (p, n))[q]? = some u) => (show cs[5 * j + q]? = some u from by
      have hq5 : q < 5 := (List.getElem?_eq_some_iff.1 hq).1
      have h1 := flatten_at (N.map ndC) j (ndC (p, n)) q h.row.2 (by rw [List.getElem?_map, hjx]; rfl) hq5
      rw [← htk, List.getElem?_take, if_pos (by have := Nat.mul_le_mul_right 5 (show j + 1 ≤ N.length by omega); omega)] at h1
      rw [h1, hq]))
    have hji : (j : Int) < (nn : Int) := by omega
    have hj0 : ¬ (j : Int) < 0 := by omega
    have hn64 : nn ≤ 64 := by rw [← hnn]; exact h.len
    have HLN := Lib.hid (nodup_lookup h.nodup (List.mem_of_getElem? hjx))
    rw [show placeR N who p = (j : Int) by unfold placeR; rw [hf]; simp only [HJ.out, atT], hf] at CA
    have CC := Lib.hid CA
    have hR0 : giveR N who p = if who ≠ rootB then (114, none) else (0, some n) := by unfold giveR; rw [hf]
    by_cases hr : who = rootB
    · rw [if_neg (fun e => e hr)] at hR0
      have HA := Lib.hid (show giveA N who p o = .owner p o by unfold giveA; rw [hR0, if_pos rfl])
      rw [hR0, HA.out]
      clear CA hp hs hR0 h hf hl hin hv hcb hnc hcz htk hjn hnn hjc htop hj hjx
      subst hr
      simp only [rootB] at CC ⊢
      go_enter Tryz.func22, Tryz.ntmps22
      go_wp2_with (first
        | (go_at_call 60; refine CC.out.mono ?_; rintro e w1 ⟨rfl, g1⟩; have G1 := Lib.hid g1; clear g1
           have HC1 := Lib.hid (HCB.out.kept G1.out)
           have q0 := (HTP.out.kept G1.out).at_ (i := 0) (v := .slice (some ⟨g, 0, none⟩) nn cap) rfl)
        | (refine wpList_storeC (off := j * 5 + 2) (p := [.string o]) szStr rfl (.tmp 30) (.tmp 28) rfl (.string o) rfl (by intro u hu; rw [List.mem_singleton.1 hu]; rfl) HC1.out rfl (by have := HJC.out; omega) (by first | rfl | go_simp) (by first | rfl | go_simp) ?_
           intro w4 h4 g4
           have H4 := Lib.hid h4
           have G4 := Lib.hid g4
           clear h4 g4))
      go_ret
      obtain ⟨l, hd, hll⟩ := (HT.out.far G1.out (by simp) (by simp) (by simp)).dat _ (List.mem_of_getElem? HX.out)
      have hT := HT.out.far G1.out (by simp) (by simp) (by simp)
      have hv' := HV.out
      subst hv'
      exact ⟨rfl, RDone.back G1.out ⟨_, turn p (fun y => { y with owner := o }) N, rt_turn (j := 2) (u := .string o) hT HC1.out HX.out (fun y => { y with owner := o }) rfl (by omega) (by rw [mul5]; exact H4.out) G4.out hd hll (hT.mode _ (List.mem_of_getElem? HX.out)), rfl, .inr (.inr ⟨g, rfl, G4.out⟩), .inl rfl⟩⟩
    · have n1 := str_ne hr
      have n1' : (who.toList == [114, 111, 111, 116]) = false := by rw [show ([114, 111, 111, 116] : List UInt8) = rootB.toList from by rw [ByteArray.toList_eq]; rfl]; exact n1
      clear n1
      rw [if_pos hr] at hR0
      have HA := Lib.hid (show giveA N who p o = .stay by unfold giveA; rw [hR0, if_neg (by decide)])
      rw [hR0, HA.out]
      clear CA hp hs hR0 h hf hl hin hv hcb hnc hcz htk hjn hnn hjc htop hj hjx hr
      go_enter Tryz.func22, Tryz.ntmps22
      go_wp2_with (first
        | (go_at_call 60; refine CC.out.mono ?_; rintro e w1 ⟨rfl, g1⟩; have G1 := Lib.hid g1; clear g1
           have HC1 := Lib.hid (HCB.out.kept G1.out)
           have q0 := (HTP.out.kept G1.out).at_ (i := 0) (v := .slice (some ⟨g, 0, none⟩) nn cap) rfl))
      go_ret
      exact ⟨rfl, RDone.stay HT.out G1.out⟩
end Go.Proofs.YtlkchajkhplapaaGreatDoor
