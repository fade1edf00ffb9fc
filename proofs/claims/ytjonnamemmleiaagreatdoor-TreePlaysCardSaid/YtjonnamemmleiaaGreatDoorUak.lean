/- The document's List, Stat, Read, New. -/
import Derived.Test.YtjonnamemmleiaaGreatDoorUaj
import Derived.Test.YtjonnamemmleiaaGreatDoorTtb
namespace Go.Proofs.YtjonnamemmleiaaGreatDoor
open Go.RowKit Go.Maps Go.WideMaps

/-- What List answers. -/
def LiR (w : World) (N : List (List UInt8 × Nd)) (who : ByteArray) (p : List UInt8) (e : Ending) (w' : World) : Prop :=
  ∃ v' ss, e = .returned (.tuple #[v', .int .i64 (listR N who p)]) ∧ RowX w' w.heap.size 9 1 v' (ss.map fun x => [kS x]) ∧ ((listR N who p ≠ 0 ∧ ss = []) ∨ (listR N who p = 0 ∧ Named N p ss)) ∧ w.grownBy w' none
/-- What Stat answers. -/
def StR (w : World) (N : List (List UInt8 × Nd)) (who : ByteArray) (p : List UInt8) (e : Ending) (w' : World) : Prop :=
  (match (findR N who p).1 with
    | none => e = .returned (.tuple #[.agg zeroNd.toArray, .int .i64 (findR N who p).2])
    | some n => e = .returned (.tuple #[.agg (ndC (p, n)).toArray, .int .i64 0])) ∧ w.grownBy w' none
/-- What Read answers. -/
def ReR (w : World) (N : List (List UInt8 × Nd)) (who : ByteArray) (p : List UInt8) (e : Ending) (w' : World) : Prop :=
  ∃ v' l, e = .returned (.tuple #[v', .int .i64 (readR N who p).2]) ∧ OwnB w' w.heap.size 5 v' l ∧ (match (readR N who p).1 with | none => l = [] | some n => OwnB w 0 5 n.data l) ∧ w.grownBy w' none
theorem place_no {N : List (List UInt8 × Nd)} {who : ByteArray} {p : List UInt8} {c : Int} (hf : findR N who p = (none, c)) : placeR N who p = -1 := by unfold placeR; rw [hf]
theorem place_yes {N : List (List UInt8 × Nd)} {who : ByteArray} {p : List UInt8} {n : Nd} {j : Nat} (hf : findR N who p = (some n, 0)) (hj : atS nmT N p = some j) : placeR N who p = (j : Int) := by unfold placeR; rw [hf]; simp only [hj, atT]
theorem cap_alloc {w : World} {p : Addr} {v : Value} (h : w.cell? p = some v) : ∀ o, (w.alloc o).cell? p = some v := fun o => cell_alloc h o

set_option maxRecDepth 10000 in
set_option maxHeartbeats 4000000 in
theorem rlist_any (w : World) (rb : Nat) (v : Value) (N : List (List UInt8 × Nd)) (h : RT w rb v N) (hok : ∀ x ∈ N, pathOk x.1 = true ∧ x.1.length ≤ 300) (who s : ByteArray) (p : List UInt8) (hp : s.data.toList = p) (hs : p.length ≤ 300) :
    Calls Tryz.prog 68 #[.pointer (some ⟨rb, 0, none⟩), .string who, .string s] w fun e w' => LiR w N who p e w' := by
  have CA := rfind_any w rb v N h who s p hp (by omega)
  have HT := Lib.hid h
  rcases findR_cases N who p with ⟨c, h0, hf⟩ | ⟨n, hin, hf⟩
  · have hR : listR N who p = c := by unfold listR; rw [hf]
    rw [place_no hf, hf] at CA
    have hcq : (c == 0) = false := beq_eq_false_iff_ne.2 h0
    have CC := Lib.hid CA
    have H0 := Lib.hid (show listR N who p ≠ 0 by rw [hR]; exact h0)
    have HR := Lib.hid hR
    clear CA h hok hp hs hR hf h0
    go_enter Tryz.func68, Tryz.ntmps68
    go_wp2_with (go_at_call 60; refine CC.out.mono ?_; rintro e w1 ⟨rfl, g1⟩; have G1 := Lib.hid g1; clear g1)
    go_ret2
    exact ⟨_, [], by rw [HR.out]; rfl, RowX.new0 _ _ _ _ G1.out.size, .inl ⟨H0.out, rfl⟩, grown_trans' G1.out (grown_alloc _ _ _)⟩
  · have hl := nodup_lookup h.nodup hin
    obtain ⟨j, hj, hjx⟩ := look_some h.nodup hl
    rw [place_yes hf hj, hf] at CA
    have CC := Lib.hid CA
    obtain ⟨ab, ao, cap, hv, hab, hjn, hcl⟩ := h.elem hjx
    obtain ⟨nn, hnn⟩ : ∃ nn, N.length = nn := ⟨_, rfl⟩
    have htop := h.top
    rw [hv, hnn] at htop
    rw [hnn] at hjn
    have HTP := Lib.hid htop
    have hji : (j : Int) < (nn : Int) := by omega
    have hn64 : nn ≤ 64 := by rw [← hnn]; exact h.len
    have HCL := Lib.hid (fun (wx : World) (hx : w.grownBy wx none) (q : Nat) (u : Value) (hq : (ndC (p, n))[q]? = some u) => ((below_of_none hx).cell (p := ⟨ab, ao + j * 5 + q, none⟩) hab).trans (hcl q u hq))
    have HMO := Lib.hid (h.mode _ (List.mem_of_getElem? hjx))
    have hR0 : listR N who p = if n.dir = false then 112 else if mayOk who 4 n.owner n.mode = false then 114 else 0 := by unfold listR; rw [hf]
    cases hd : n.dir with
    | false =>
      rw [if_pos hd] at hR0
      have HD := Lib.hid hd
      have HR := Lib.hid hR0
      clear CA h hok hp hs hR0 hf hl hj hjx hv hab hjn hcl hnn htop hd hin
      go_enter Tryz.func68, Tryz.ntmps68
      go_wp2_with (go_at_call 60; refine CC.out.mono ?_; rintro e w1 ⟨rfl, g1⟩; have G1 := Lib.hid g1; (have q0 := (HTP.out.kept g1).at_ (i := 0) (v := .slice (some ⟨ab, ao, none⟩) nn cap) rfl); (have q1 := HCL.out _ g1 1 (.bool false) (by show some (Value.bool n.dir) = _; rw [HD.out])); clear g1)
      go_ret2
      exact ⟨_, [], by rw [HR.out]; rfl, RowX.new0 _ _ _ _ G1.out.size, .inl ⟨by rw [HR.out]; decide, rfl⟩, grown_trans' G1.out (grown_alloc _ _ _)⟩
    | true =>
      rw [if_neg (by rw [hd]; decide)] at hR0
      have HD := Lib.hid hd
      cases hm : mayOk who 4 n.owner n.mode with
      | false =>
        rw [if_pos hm] at hR0
        have HM := Lib.hid hm
        have HR := Lib.hid hR0
        clear CA h hok hp hs hR0 hf hl hj hjx hv hab hjn hcl hnn htop hd hin hm
        go_enter Tryz.func68, Tryz.ntmps68
        go_wp2_with (first
          | (go_at_call 60; refine CC.out.mono ?_; rintro e w1 ⟨rfl, g1⟩; have G1 := Lib.hid g1; (have q0 := (HTP.out.kept g1).at_ (i := 0) (v := .slice (some ⟨ab, ao, none⟩) nn cap) rfl); (have q1 := HCL.out _ g1 1 (.bool true) (by show some (Value.bool n.dir) = _; rw [HD.out])); clear g1)
          | (refine wpList_loadX (p := ndC (p, n)) aggNd rfl (.tmp 37) rfl (b := ab) (off := ao + j * 5) (HCL.out _ G1.out) rfl (by first | rfl | go_simp) ?_)
          | (go_at_call 49; refine (rmay_any _ who 4 ⟨p.toArray⟩ n.owner n.dir n.mode n.data HMO.out (.inr (.inr rfl))).mono ?_; rw [HM.out]; rintro e w6 ⟨rfl, g6⟩; have G6 := Lib.hid (grown_trans' G1.out g6); clear g6))
        go_ret2
        exact ⟨_, [], by rw [HR.out]; rfl, RowX.new0 _ _ _ _ G6.out.size, .inl ⟨by rw [HR.out]; decide, rfl⟩, grown_trans' G6.out (grown_alloc _ _ _)⟩
      | true =>
        rw [if_neg (by rw [hm]; decide)] at hR0
        have HM := Lib.hid hm
        have HR := Lib.hid hR0
        have NA := Lib.hid (fun W (hW : RT W rb v N) => rnames_any W rb v N hW hok s p hp hs)
        clear CA h hok hp hs hR0 hf hl hj hjx hv hab hjn hcl hnn htop hd hin hm
        go_enter Tryz.func68, Tryz.ntmps68
        go_wp2_with (first
          | (go_at_call 60; refine CC.out.mono ?_; rintro e w1 ⟨rfl, g1⟩; have G1 := Lib.hid g1; (have q0 := (HTP.out.kept g1).at_ (i := 0) (v := .slice (some ⟨ab, ao, none⟩) nn cap) rfl); (have q1 := HCL.out _ g1 1 (.bool true) (by show some (Value.bool n.dir) = _; rw [HD.out])); clear g1)
          | (refine wpList_loadX (p := ndC (p, n)) aggNd rfl (.tmp 37) rfl (b := ab) (off := ao + j * 5) (HCL.out _ G1.out) rfl (by first | rfl | go_simp) ?_)
          | (go_at_call 49; refine (rmay_any _ who 4 ⟨p.toArray⟩ n.owner n.dir n.mode n.data HMO.out (.inr (.inr rfl))).mono ?_; rw [HM.out]; rintro e w6 ⟨rfl, g6⟩; have G6 := Lib.hid (grown_trans' G1.out g6); clear g6)
          | (go_at_call 56; refine (NA.out _ (HT.out.far G6.out (by simp) (by simp) (by simp))).mono ?_; rintro e w7 ⟨v7, ss, rfl, hn7, hr7, g7⟩; have HN7 := Lib.hid hn7; have HR7 := Lib.hid hr7; have G7 := Lib.hid (grown_trans' G6.out g7); clear hn7 hr7 g7))
        go_ret2
        exact ⟨_, ss, by rw [HR.out]; rfl, HR7.out.base_ G6.out.size, .inr ⟨HR.out, HN7.out⟩, G7.out⟩
set_option maxRecDepth 10000 in
set_option maxHeartbeats 4000000 in
theorem rread_any (w : World) (rb : Nat) (v : Value) (N : List (List UInt8 × Nd)) (h : RT w rb v N) (who s : ByteArray) (p : List UInt8) (hp : s.data.toList = p) (hs : p.length ≤ 300) :
    Calls Tryz.prog 67 #[.pointer (some ⟨rb, 0, none⟩), .string who, .string s] w fun e w' => ReR w N who p e w' := by
  have CA := rfind_any w rb v N h who s p hp (by omega)
  have HT := Lib.hid h
  rcases findR_cases N who p with ⟨c, h0, hf⟩ | ⟨n, hin, hf⟩
  · have hR : readR N who p = (none, c) := by unfold readR; rw [hf]
    rw [place_no hf, hf] at CA
    have hcq : (c == 0) = false := beq_eq_false_iff_ne.2 h0
    have CC := Lib.hid CA
    have HR := Lib.hid hR
    clear CA h hp hs hR hf h0
    go_enter Tryz.func67, Tryz.ntmps67
    go_wp2_with (go_at_call 60; refine CC.out.mono ?_; rintro e w1 ⟨rfl, g1⟩; have G1 := Lib.hid g1; clear g1)
    go_ret2
    exact ⟨_, [], by rw [HR.out]; rfl, OwnB.new0 _ _ _ G1.out.size, by rw [HR.out], grown_trans' G1.out (grown_alloc _ _ _)⟩
  · have hl := nodup_lookup h.nodup hin
    obtain ⟨j, hj, hjx⟩ := look_some h.nodup hl
    rw [place_yes hf hj, hf] at CA
    have CC := Lib.hid CA
    obtain ⟨ab, ao, cap, hv, hab, hjn, hcl⟩ := h.elem hjx
    obtain ⟨nn, hnn⟩ : ∃ nn, N.length = nn := ⟨_, rfl⟩
    have htop := h.top
    rw [hv, hnn] at htop
    rw [hnn] at hjn
    have HTP := Lib.hid htop
    have hji : (j : Int) < (nn : Int) := by omega
    have hn64 : nn ≤ 64 := by rw [← hnn]; exact h.len
    have HCL := Lib.hid (fun (wx : World) (hx : w.grownBy wx none) (q : Nat) (u : Value) (hq : (ndC (p, n))[q]? = some u) => ((below_of_none hx).cell (p := ⟨ab, ao + j * 5 + q, none⟩) hab).trans (hcl q u hq))
    have HMO := Lib.hid (h.mode _ (List.mem_of_getElem? hjx))
    have hR0 : readR N who p = if n.dir = true then (none, 113) else if mayOk who 4 n.owner n.mode = false then (none, 114) else (some n, 0) := by unfold readR; rw [hf]
    obtain ⟨ld, hod, hlz⟩ := h.dat _ (List.mem_of_getElem? hjx)
    obtain ⟨Ad, cd, hdv, hrd, -⟩ := hod.shape
    obtain ⟨dz, hdz⟩ : ∃ dz, ld.length = dz := ⟨_, rfl⟩
    rw [hdz] at hdv
    have HDV := Lib.hid hdv
    have HOD := Lib.hid hod
    have HRD := Lib.hid hrd
    have HLZ := Lib.hid hlz
    have HDZ := Lib.hid hdz
    cases hd : n.dir with
    | true =>
      rw [if_pos hd] at hR0
      have HD := Lib.hid hd
      have HR := Lib.hid hR0
      clear CA h hp hs hR0 hf hl hj hjx hv hab hjn hcl hnn htop hd hin hod hdv hrd hdz hlz
      go_enter Tryz.func67, Tryz.ntmps67
      go_wp2_with (go_at_call 60; refine CC.out.mono ?_; rintro e w1 ⟨rfl, g1⟩; have G1 := Lib.hid g1; (have q0 := (HTP.out.kept g1).at_ (i := 0) (v := .slice (some ⟨ab, ao, none⟩) nn cap) rfl); (have q1 := HCL.out _ g1 1 (.bool true) (by show some (Value.bool n.dir) = _; rw [HD.out])); clear g1)
      go_ret2
      exact ⟨_, [], by rw [HR.out]; rfl, OwnB.new0 _ _ _ G1.out.size, by rw [HR.out], grown_trans' G1.out (grown_alloc _ _ _)⟩
    | false =>
      rw [if_neg (by rw [hd]; decide)] at hR0
      have HD := Lib.hid hd
      cases hm : mayOk who 4 n.owner n.mode with
      | false =>
        rw [if_pos hm] at hR0
        have HM := Lib.hid hm
        have HR := Lib.hid hR0
        clear CA h hp hs hR0 hf hl hj hjx hv hab hjn hcl hnn htop hd hin hm hod hdv hrd hdz hlz
        go_enter Tryz.func67, Tryz.ntmps67
        go_wp2_with (first
          | (go_at_call 60; refine CC.out.mono ?_; rintro e w1 ⟨rfl, g1⟩; have G1 := Lib.hid g1; (have q0 := (HTP.out.kept g1).at_ (i := 0) (v := .slice (some ⟨ab, ao, none⟩) nn cap) rfl); (have q1 := HCL.out _ g1 1 (.bool false) (by show some (Value.bool n.dir) = _; rw [HD.out])); clear g1)
          | (refine wpList_loadX (p := ndC (p, n)) aggNd rfl (.tmp 36) rfl (b := ab) (off := ao + j * 5) (HCL.out _ G1.out) rfl (by first | rfl | go_simp) ?_)
          | (go_at_call 49; refine (rmay_any _ who 4 ⟨p.toArray⟩ n.owner n.dir n.mode n.data HMO.out (.inr (.inr rfl))).mono ?_; rw [HM.out]; rintro e w6 ⟨rfl, g6⟩; have G6 := Lib.hid (grown_trans' G1.out g6); clear g6))
        go_ret2
        exact ⟨_, [], by rw [HR.out]; rfl, OwnB.new0 _ _ _ G6.out.size, by rw [HR.out], grown_trans' G6.out (grown_alloc _ _ _)⟩
      | true =>
        rw [if_neg (by rw [hm]; decide)] at hR0
        have HM := Lib.hid hm
        have HR := Lib.hid hR0
        clear CA h hp hs hR0 hf hl hj hjx hv hab hjn hcl hnn htop hd hin hm hod hdv hrd hdz hlz
        go_enter Tryz.func67, Tryz.ntmps67
        go_wp2_with (first
          | (go_at_call 60; refine CC.out.mono ?_; rintro e w1 ⟨rfl, g1⟩; have G1 := Lib.hid g1; (have q0 := (HTP.out.kept g1).at_ (i := 0) (v := .slice (some ⟨ab, ao, none⟩) nn cap) rfl); (have q1 := HCL.out _ g1 1 (.bool false) (by show some (Value.bool n.dir) = _; rw [HD.out])); clear g1)
          | (refine wpList_loadX (p := ndC (p, n)) aggNd rfl (.tmp 36) rfl (b := ab) (off := ao + j * 5) (HCL.out _ G1.out) rfl (by first | rfl | go_simp) ?_)
          | (go_at_call 49; refine (rmay_any _ who 4 ⟨p.toArray⟩ n.owner n.dir n.mode n.data HMO.out (.inr (.inr rfl))).mono ?_; rw [HM.out]; rintro e w6 ⟨rfl, g6⟩; have G6 := Lib.hid (grown_trans' G1.out g6); (have q2 := cap_alloc ((HTP.out.kept G6.out).at_ (i := 0) (v := .slice (some ⟨ab, ao, none⟩) nn cap) rfl)); (have q3 := cap_alloc (HCL.out _ G6.out 4 (.slice Ad dz cd) (by show some n.data = _; rw [HDV.out]))); clear g6)
          | (at_builtin
             refine wpList_appB byteT rfl (.tmp 41) (.tmp 49) rfl (OwnB.new0 w6 w.heap.size 5 G6.out.size) ((HRD.out.below (below_of_none G6.out)).alloc (G6.out.size) _) (by first | rfl | go_simp) (by rw [HDZ.out]; first | rfl | go_simp) (by simp; have := HLZ.out; omega) (by rw [World.size_alloc]; have := G6.out.size; omega) ?_
             intro v7 w7 o7 g7 _ a7
             rw [List.nil_append] at o7
             have G7 := Lib.hid (grown_trans' G6.out (fresh_grown rfl (World.grownBy.refl w6 none) g7))
             have O7 := Lib.hid o7
             clear o7 g7 a7))
        go_ret2
        exact ⟨_, ld, by rw [HR.out]; rfl, O7.out, by rw [HR.out]; exact HOD.out, G7.out⟩
end Go.Proofs.YtjonnamemmleiaaGreatDoor
