/- Commands that call the Tree. -/
import Derived.Test.YtlkchajkhplapaaGreatDoorSkd
import Derived.Test.YtlkchajkhplapaaGreatDoorUaf
namespace Go.Proofs.YtlkchajkhplapaaGreatDoor
open Go.RowKit Go.Maps Go.WideMaps

/-- The Shell's block and that of its arguments are as they were. -/
def S1 (w : World) (sb b : Nat) (W : World) : Prop := W.heap[sb]? = w.heap[sb]? ∧ W.heap[b]? = w.heap[b]?
theorem S1.drew {w : World} {sb b : Nat} : S1 w sb b w.drew := ⟨rfl, rfl⟩
theorem S1.kp {w0 w w' : World} {sb tb mb N : Nat} {M : Tr} (h : SG w0 w sb tb mb M N) {xs : List (List UInt8)} {n cap b off : Nat} (ha : Args w (some ⟨b, off, none⟩) xs n cap) (hk : Kp [63] w w') : S1 w sb b w' := by
  obtain ⟨vl, Cs, hcb, -, -⟩ := h.sh
  obtain ⟨cs, sh, hh⟩ := ha.ty _ rfl
  exact ⟨(hk.blk _ _ _ _ hcb (by decide)).trans hcb.symm, (hk.blk _ _ _ _ hh (by decide)).trans hh.symm⟩
theorem sg_at0 {w0 w : World} {sb tb mb N : Nat} {M : Tr} (h : SG w0 w sb tb mb M N) : w.cell? ⟨sb, 0, none⟩ = some (.pointer (some ⟨tb, 0, none⟩)) := by
  obtain ⟨vl, Cs, hcb, -, -⟩ := h.sh
  exact hcb.at_ (i := 0) rfl
theorem Args.at2 {w : World} {xs : List (List UInt8)} {n cap b off : Nat} (h : Args w (some ⟨b, off, none⟩) xs n cap) {k : Nat} {x : List UInt8} (hx : xs[k]? = some x) : w.cell? ⟨b, off + k, none⟩ = some (.string ⟨x.toArray⟩) := by
  obtain ⟨b', off', hA', -, hc⟩ := h.at_ hx
  injection hA' with hA'
  injection hA' with h1 h2
  subst h1 h2
  exact hc
theorem Args.some_ {w : World} {A : Option Addr} {xs : List (List UInt8)} {n cap : Nat} (h : Args w A xs n cap) (hp : 0 < n) : ∃ b off, A = some ⟨b, off, none⟩ := by
  obtain ⟨x, hx⟩ : ∃ x, xs[0]? = some x := ⟨_, List.getElem?_eq_getElem (by rw [h.n]; exact hp)⟩
  obtain ⟨b, off, hA, -, -⟩ := h.at_ hx
  exact ⟨b, off, hA⟩
theorem ov_quiet {w0 w w' : World} {sb tb mb N : Nat} {M : Tr} {who : ByteArray} {c : List UInt8} {xs : List (List UInt8)} {v : Value} {o : List UInt8} {e : Int} (hG : SG w0 w sb tb mb M N) (hS : SndM M) (he : e = treeC M who c xs) (ho : OB w' v o) (hg : w.grownBy w' none) (hd : treeC M who c xs = 0 → DidR (fun v l => OwnB w 0 5 v l) (fun v l => OwnB w' 0 5 v l) M who c xs o M) : OvR w0 w sb tb mb M N who c xs (.returned (.tuple #[v, .int .i64 e])) w' := by
  subst he
  exact ⟨v, o, M, rfl, ho, hG.made hg, hS, Kp.none hg, fun _ => ⟨rfl, hg⟩, hd⟩
theorem ov_loud {w0 w w' : World} {sb tb mb N : Nat} {M M' : Tr} {who : ByteArray} {c : List UInt8} {xs : List (List UInt8)} {e : Int} (hl : loudC c) (he : e = treeC M who c xs) (hw : SW w0 w w' sb tb mb M N e M') (hd : e = 0 → DidR (fun v l => OwnB w 0 5 v l) (fun v l => OwnB w' 0 5 v l) M who c xs [] M') : OvR w0 w sb tb mb M N who c xs (.returned (.tuple #[.slice none 0 0, .int .i64 e])) w' := by
  subst he
  exact ⟨_, [], M', rfl, OB.nil _, hw.1, hw.2.1, Kp.of hw.2.2.1, fun h => hw.2.2.2 (h.resolve_right (fun hn => hn hl)), hd⟩
theorem SW.since {w0 w w1 w' : World} {sb tb mb N : Nat} {M M' : Tr} {c : Int} (h : SW w0 w1 w' sb tb mb M N c M') (hg : w.grownBy w1 none) : SW w0 w w' sb tb mb M N c M' := by
  refine ⟨h.1, h.2.1, ?_, fun hc => ⟨(h.2.2.2 hc).1, grown_trans' hg (h.2.2.2 hc).2⟩⟩
  obtain ⟨r, h1, h2⟩ := h.2.2.1
  cases r with
  | none => exact Chg.none (grown_trans' hg h1)
  | some z =>
    by_cases hz : z < w.heap.size
    · refine ⟨some z, grown_trans' (grown_some hg z) h1, fun b e cs t sh hb => ?_⟩
      injection e with e
      subst e
      exact h2 z rfl cs t sh ((hg.block z hz (by simp)).trans hb)
    · exact Chg.none (none_new hg h1 (by omega))
section
variable {w0 w : World} {sb tb mb N : Nat} {M : Tr}
theorem read_in {who : ByteArray} {p : List UInt8} {n : Nd} (h : (readR M who p).1 = some n) : (p, n) ∈ M := by
  rcases findR_cases M who p with ⟨c, h0, hf⟩ | ⟨m, hin, hf⟩
  · unfold readR at h
    rw [hf] at h
    cases h
  · unfold readR at h
    rw [hf] at h
    simp only at h
    split at h
    · cases h
    · split at h
      · cases h
      · injection h with h
        rw [← h]; exact hin
/-- What List answers at a Shell's Tree. -/
def LsR (w : World) (c : Int) (e : Ending) (w' : World) : Prop := ∃ (A : Option Addr) (xs : List (List UInt8)) (n cap : Nat), e = .returned (.tuple #[.slice A n cap, .int .i64 c]) ∧ w.grownBy w' none ∧ xs.length = n ∧ n ≤ 64 ∧ SR w' w'.heap.size A 1 (xs.map fun x => [kS x]) cap ∧ ∀ x ∈ xs, x.length ≤ 300
theorem s_list (h : SG w0 w sb tb mb M N) (hS : SndM M) (who s : ByteArray) (p : List UInt8) (hp : s.data.toList = p) (hs : p.length ≤ 300) :
    Calls Tryz.prog 38 #[.pointer (some ⟨tb, 0, none⟩), .string who, .string s] w (LsR w (listR M who p)) := by
  refine (list_any w tb mb M h.tg.ts (by have := hS.len; omega) hS.slashed who s p hp (by omega)).mono (fun e w' hh => ?_)
  obtain ⟨hb, hh⟩ := hh
  have hg := none_of_below hb (Nat.le_refl _)
  rcases hh with ⟨h0, rfl⟩ | ⟨h0, u, ss, rfl, hn, ho⟩
  · exact ⟨none, [], 0, 0, rfl, hg, rfl, by omega, ⟨Nat.le_refl _, Nat.zero_le _, .inl ⟨rfl, rfl⟩⟩, fun x hx => by cases hx⟩
  · have hr := keys_row rfl ho
    obtain ⟨A, c, hv, hsr, -⟩ := hr.shape
    rw [List.length_map] at hv
    subst hv
    have hl : ss.length ≤ 64 := by
      rw [hn.1.length_eq]
      unfold kidsM
      rw [List.length_map]
      refine Nat.le_trans (List.length_filter_le _ _) ?_
      unfold keysM
      rw [List.length_map]
      exact hS.len
    refine ⟨A, ss, ss.length, c, by rw [h0], hg, rfl, hl, hsr, fun x hx => ?_⟩
    obtain ⟨q, hq, rfl⟩ := List.mem_map.1 (hn.1.mem_iff.1 hx)
    obtain ⟨m, hm⟩ := mem_keysM.1 (List.mem_filter.1 hq).1
    have h1 := (hS.all _ _ hm).2.1
    unfold lastOf
    rw [List.length_reverse]
    refine Nat.le_trans (List.Sublist.length_le (List.takeWhile_sublist _)) ?_
    rw [List.length_reverse]; exact h1
set_option maxRecDepth 20000 in
set_option maxHeartbeats 8000000 in
theorem over_cat (h : SG w0 w sb tb mb M N) (hS : SndM M) (who : ByteArray) (hw : who.size ≤ 100) (A : Option Addr) (p : List UInt8) (n cap : Nat) (ha : Args w A [p] n cap) :
    Calls Tryz.prog 119 #[.pointer (some ⟨sb, 0, none⟩), .string who, .string ⟨cCat.toArray⟩, .slice A n cap] w (OvR w0 w sb tb mb M N who cCat [p]) := by
  have hn : 1 = n := ha.n
  subst hn
  obtain ⟨b, off, rfl⟩ := ha.some_ (by omega)
  have k0 := sg_at0 h
  have k1 := ha.at2 (k := 0) rfl
  rw [Nat.add_zero] at k1
  have hp := ha.short p (by simp)
  have HG := Lib.hid h
  have HA := Lib.hid ha
  have HS := Lib.hid hS
  have K0 := Lib.hid k0
  have K1 := Lib.hid k1
  have HW := Lib.hid hw
  have RD := Lib.hid (fun (W : World) (hW : SG w0 W sb tb mb M N) => s_read hW who ⟨p.toArray⟩ p rfl (by omega))
  clear h hS ha hp hw
  go_enter Tryz.func119, Tryz.ntmps119
  go_wp2
  refine helds_begin (S1 w sb b) (by kernel_rfl) S1.drew (fun _ => ?_)
  refine helds_take (i := 0) (d := some 15) (v := ?vcat_1) (by assumption) rfl rfl (by kernel_rfl) (fun _ _ _ h => h) ?ycat_1 ?_; case ycat_1 => (refine Or.inl ⟨rfl, fun wx hS => ?_⟩; go_simp; try with_reducible rfl)
  try simp only [Act.put, List.setIfInBounds_toArray, List.set_cons_zero, List.set_cons_succ]
  refine helds_take (i := 1) (d := some 16) (v := ?vcat_2) (by assumption) rfl rfl (by kernel_rfl) (fun _ _ _ h => h) ?ycat_2 ?_; case ycat_2 => (refine Or.inl ⟨rfl, fun wx hS => ?_⟩; go_simp; try with_reducible rfl)
  try simp only [Act.put, List.setIfInBounds_toArray, List.set_cons_zero, List.set_cons_succ]
  refine helds_take (i := 2) (d := some 17) (v := ?vcat_3) (by assumption) rfl rfl (by kernel_rfl) (fun _ _ _ h => h) ?ycat_3 ?_; case ycat_3 => (refine Or.inl ⟨rfl, fun wx hS => ?_⟩; go_simp; try with_reducible rfl)
  try simp only [Act.put, List.setIfInBounds_toArray, List.set_cons_zero, List.set_cons_succ]
  refine helds_take (i := 3) (d := some 18) (v := ?vcat_4) (by assumption) rfl rfl (by kernel_rfl) (fun _ _ _ h => h) ?ycat_4 ?_; case ycat_4 => (refine Or.inl ⟨rfl, fun wx hS => ?_⟩; have q := (World.cell?_of_block hS.1).trans K0.out; go_simp; try with_reducible rfl)
  try simp only [Act.put, List.setIfInBounds_toArray, List.set_cons_zero, List.set_cons_succ]
  refine helds_take (i := 4) (d := some 19) (v := ?vcat_5) (by assumption) rfl rfl (by kernel_rfl) (fun _ _ _ h => h) ?ycat_5 ?_; case ycat_5 => (refine Or.inl ⟨rfl, fun wx hS => ?_⟩; go_simp; try with_reducible rfl)
  try simp only [Act.put, List.setIfInBounds_toArray, List.set_cons_zero, List.set_cons_succ]
  refine helds_take (i := 5) (d := some 20) (v := ?vcat_6) (by assumption) rfl rfl (by kernel_rfl) (fun _ _ _ h => h) ?ycat_6 ?_; case ycat_6 => (refine Or.inl ⟨rfl, fun wx hS => ?_⟩; go_simp; try with_reducible rfl)
  try simp only [Act.put, List.setIfInBounds_toArray, List.set_cons_zero, List.set_cons_succ]
  refine helds_take (i := 6) (d := some 21) (v := ?vcat_7) (by assumption) rfl rfl (by kernel_rfl) (fun _ _ _ h => h) ?ycat_7 ?_; case ycat_7 => (refine Or.inl ⟨rfl, fun wx hS => ?_⟩; go_simp; try with_reducible rfl)
  try simp only [Act.put, List.setIfInBounds_toArray, List.set_cons_zero, List.set_cons_succ]
  refine helds_take (i := 7) (d := some 22) (v := ?vcat_8) (by assumption) rfl rfl (by kernel_rfl) (fun _ _ _ h => h) ?ycat_8 ?_; case ycat_8 => (refine Or.inl ⟨rfl, fun wx hS => ?_⟩; have q := (World.cell?_of_block hS.2).trans K1.out; go_simp; try with_reducible rfl)
  try simp only [Act.put, List.setIfInBounds_toArray, List.set_cons_zero, List.set_cons_succ]
  refine helds_one (i := 8) rfl (by kernel_rfl) rfl (fun K hK => ?_)
  refine wp_callU (d := some 23) (f := 66) (args := #[.pointer (some ⟨tb, 0, none⟩), .string who, .string ⟨p.toArray⟩]) rfl (by first | rfl | go_simp) ?_
  refine (RD.out _ (HG.out.made (grown_drew (World.grownBy.refl w none)))).mono ?_
  rintro e w1 ⟨v1, o1, rfl, g1, ob, d1, d2⟩
  have g1 := grown_trans' (grown_drew (World.grownBy.refl w none)) g1
  have hS8 : S1 w sb b w1 := S1.kp HG.out HA.out (Kp.none g1)
  have G1 := Lib.hid g1
  have O1 := Lib.hid ob
  have D2 := Lib.hid d2
  clear g1 ob d1 d2
  refine ⟨_, rfl, ?_⟩
  refine hK.out _ _ (by assumption) (fun _ => ?_)
  clear hK K
  try simp only [Act.put, List.setIfInBounds_toArray, List.set_cons_zero, List.set_cons_succ]
  refine helds_take (i := 9) (d := some 24) (v := ?vcat_9) (by assumption) rfl rfl (by kernel_rfl) (fun _ _ _ h => h) ?ycat_9 ?_; case ycat_9 => (refine Or.inl ⟨rfl, fun wx hS => ?_⟩; go_simp; try with_reducible rfl)
  try simp only [Act.put, List.setIfInBounds_toArray, List.set_cons_zero, List.set_cons_succ]
  refine helds_take (i := 10) (d := some 25) (v := ?vcat_10) (by assumption) rfl rfl (by kernel_rfl) (fun _ _ _ h => h) ?ycat_10 ?_; case ycat_10 => (refine Or.inl ⟨rfl, fun wx hS => ?_⟩; go_simp; try with_reducible rfl)
  try simp only [Act.put, List.setIfInBounds_toArray, List.set_cons_zero, List.set_cons_succ]
  refine helds_take (i := 11) (d := some 8) (v := ?vcat_11) (by assumption) rfl rfl (by kernel_rfl) (fun _ _ _ h => h) ?ycat_11 ?_; case ycat_11 => (refine Or.inl ⟨rfl, fun wx hS => ?_⟩; go_simp; try with_reducible rfl)
  try simp only [Act.put, List.setIfInBounds_toArray, List.set_cons_zero, List.set_cons_succ]
  refine helds_take (i := 12) (d := some 9) (v := ?vcat_12) (by assumption) rfl rfl (by kernel_rfl) (fun _ _ _ h => h) ?ycat_12 ?_; case ycat_12 => (refine Or.inl ⟨rfl, fun wx hS => ?_⟩; go_simp; try with_reducible rfl)
  try simp only [Act.put, List.setIfInBounds_toArray, List.set_cons_zero, List.set_cons_succ]
  refine held_end (by kernel_rfl) ?_ _
  clear k0 k1
  go_wp2
  go_ret2
  exact ov_quiet HG.out HS.out rfl O1.out G1.out (fun _ => ⟨fun _ n l hn hl => D2.out n l hn hl, fun e => (by cases e), fun e => by rcases e with e | e | e | e <;> cases e⟩)
set_option maxRecDepth 20000 in
set_option maxHeartbeats 8000000 in
theorem over_ls (h : SG w0 w sb tb mb M N) (hS : SndM M) (who : ByteArray) (hw : who.size ≤ 100) (A : Option Addr) (p : List UInt8) (n cap : Nat) (ha : Args w A [p] n cap) :
    Calls Tryz.prog 119 #[.pointer (some ⟨sb, 0, none⟩), .string who, .string ⟨cLs.toArray⟩, .slice A n cap] w (OvR w0 w sb tb mb M N who cLs [p]) := by
  have hn : 1 = n := ha.n
  subst hn
  obtain ⟨b, off, rfl⟩ := ha.some_ (by omega)
  have k0 := sg_at0 h
  have k1 := ha.at2 (k := 0) rfl
  rw [Nat.add_zero] at k1
  have hp := ha.short p (by simp)
  have HG := Lib.hid h
  have HA := Lib.hid ha
  have HS := Lib.hid hS
  have K0 := Lib.hid k0
  have K1 := Lib.hid k1
  have HW := Lib.hid hw
  have hSS := hS
  have RD := Lib.hid (fun (W : World) (hW : SG w0 W sb tb mb M N) => s_list hW hSS who ⟨p.toArray⟩ p rfl (by omega))
  clear h hS ha hp hw
  go_enter Tryz.func119, Tryz.ntmps119
  go_wp2
  refine helds_begin (S1 w sb b) (by kernel_rfl) S1.drew (fun _ => ?_)
  refine helds_take (i := 0) (d := some 29) (v := ?vls_1) (by assumption) rfl rfl (by kernel_rfl) (fun _ _ _ h => h) ?yls_1 ?_; case yls_1 => (refine Or.inl ⟨rfl, fun wx hS => ?_⟩; go_simp; try with_reducible rfl)
  try simp only [Act.put, List.setIfInBounds_toArray, List.set_cons_zero, List.set_cons_succ]
  refine helds_take (i := 1) (d := some 30) (v := ?vls_2) (by assumption) rfl rfl (by kernel_rfl) (fun _ _ _ h => h) ?yls_2 ?_; case yls_2 => (refine Or.inl ⟨rfl, fun wx hS => ?_⟩; go_simp; try with_reducible rfl)
  try simp only [Act.put, List.setIfInBounds_toArray, List.set_cons_zero, List.set_cons_succ]
  refine helds_take (i := 2) (d := some 31) (v := ?vls_3) (by assumption) rfl rfl (by kernel_rfl) (fun _ _ _ h => h) ?yls_3 ?_; case yls_3 => (refine Or.inl ⟨rfl, fun wx hS => ?_⟩; go_simp; try with_reducible rfl)
  try simp only [Act.put, List.setIfInBounds_toArray, List.set_cons_zero, List.set_cons_succ]
  refine helds_take (i := 3) (d := some 32) (v := ?vls_4) (by assumption) rfl rfl (by kernel_rfl) (fun _ _ _ h => h) ?yls_4 ?_; case yls_4 => (refine Or.inl ⟨rfl, fun wx hS => ?_⟩; have q := (World.cell?_of_block hS.1).trans K0.out; go_simp; try with_reducible rfl)
  try simp only [Act.put, List.setIfInBounds_toArray, List.set_cons_zero, List.set_cons_succ]
  refine helds_take (i := 4) (d := some 33) (v := ?vls_5) (by assumption) rfl rfl (by kernel_rfl) (fun _ _ _ h => h) ?yls_5 ?_; case yls_5 => (refine Or.inl ⟨rfl, fun wx hS => ?_⟩; go_simp; try with_reducible rfl)
  try simp only [Act.put, List.setIfInBounds_toArray, List.set_cons_zero, List.set_cons_succ]
  refine helds_take (i := 5) (d := some 34) (v := ?vls_6) (by assumption) rfl rfl (by kernel_rfl) (fun _ _ _ h => h) ?yls_6 ?_; case yls_6 => (refine Or.inl ⟨rfl, fun wx hS => ?_⟩; go_simp; try with_reducible rfl)
  try simp only [Act.put, List.setIfInBounds_toArray, List.set_cons_zero, List.set_cons_succ]
  refine helds_take (i := 6) (d := some 35) (v := ?vls_7) (by assumption) rfl rfl (by kernel_rfl) (fun _ _ _ h => h) ?yls_7 ?_; case yls_7 => (refine Or.inl ⟨rfl, fun wx hS => ?_⟩; go_simp; try with_reducible rfl)
  try simp only [Act.put, List.setIfInBounds_toArray, List.set_cons_zero, List.set_cons_succ]
  refine helds_take (i := 7) (d := some 36) (v := ?vls_8) (by assumption) rfl rfl (by kernel_rfl) (fun _ _ _ h => h) ?yls_8 ?_; case yls_8 => (refine Or.inl ⟨rfl, fun wx hS => ?_⟩; have q := (World.cell?_of_block hS.2).trans K1.out; go_simp; try with_reducible rfl)
  try simp only [Act.put, List.setIfInBounds_toArray, List.set_cons_zero, List.set_cons_succ]
  refine helds_one (i := 8) rfl (by kernel_rfl) rfl (fun K hK => ?_)
  refine wp_callU (d := some 37) (f := 38) (args := #[.pointer (some ⟨tb, 0, none⟩), .string who, .string ⟨p.toArray⟩]) rfl (by first | rfl | go_simp) ?_
  refine (RD.out _ (HG.out.made (grown_drew (World.grownBy.refl w none)))).mono ?_
  rintro e w1 ⟨A1, xs, n1, c1, rfl, g1, hn1, hm1, hr1, hx1⟩
  have g1 := grown_trans' (grown_drew (World.grownBy.refl w none)) g1
  have hS8 : S1 w sb b w1 := S1.kp HG.out HA.out (Kp.none g1)
  have G1 := Lib.hid g1
  have LI := Lib.hid (lines_any w1 A1 xs n1 c1 hn1 hr1 (fun x hx => by have := hx1 x hx; omega) (by omega))
  clear g1 hn1 hm1 hr1 hx1
  refine ⟨_, rfl, ?_⟩
  refine hK.out _ _ (by assumption) (fun _ => ?_)
  clear hK K
  try simp only [Act.put, List.setIfInBounds_toArray, List.set_cons_zero, List.set_cons_succ]
  refine helds_take (i := 9) (d := some 28) (v := ?vls_9) (by assumption) rfl rfl (by kernel_rfl) (fun _ _ _ h => h) ?yls_9 ?_; case yls_9 => (refine Or.inl ⟨rfl, fun wx hS => ?_⟩; go_simp; try with_reducible rfl)
  try simp only [Act.put, List.setIfInBounds_toArray, List.set_cons_zero, List.set_cons_succ]
  refine helds_take (i := 10) (d := some 38) (v := ?vls_10) (by assumption) rfl rfl (by kernel_rfl) (fun _ _ _ h => h) ?yls_10 ?_; case yls_10 => (refine Or.inl ⟨rfl, fun wx hS => ?_⟩; go_simp; try with_reducible rfl)
  try simp only [Act.put, List.setIfInBounds_toArray, List.set_cons_zero, List.set_cons_succ]
  refine helds_take (i := 11) (d := some 39) (v := ?vls_11) (by assumption) rfl rfl (by kernel_rfl) (fun _ _ _ h => h) ?yls_11 ?_; case yls_11 => (refine Or.inl ⟨rfl, fun wx hS => ?_⟩; go_simp; try with_reducible rfl)
  try simp only [Act.put, List.setIfInBounds_toArray, List.set_cons_zero, List.set_cons_succ]
  refine helds_take (i := 12) (d := some 10) (v := ?vls_12) (by assumption) rfl rfl (by kernel_rfl) (fun _ _ _ h => h) ?yls_12 ?_; case yls_12 => (refine Or.inl ⟨rfl, fun wx hS => ?_⟩; go_simp; try with_reducible rfl)
  try simp only [Act.put, List.setIfInBounds_toArray, List.set_cons_zero, List.set_cons_succ]
  refine helds_take (i := 13) (d := some 11) (v := ?vls_13) (by assumption) rfl rfl (by kernel_rfl) (fun _ _ _ h => h) ?yls_13 ?_; case yls_13 => (refine Or.inl ⟨rfl, fun wx hS => ?_⟩; go_simp; try with_reducible rfl)
  try simp only [Act.put, List.setIfInBounds_toArray, List.set_cons_zero, List.set_cons_succ]
  refine held_end (by kernel_rfl) ?_ _
  clear k0 k1
  go_wp2_with (go_at_call 153; refine LI.out.mono ?_; rintro e w2 ⟨v2, l2, rfl, o2, g2⟩; have O2 := Lib.hid o2; have G2 := Lib.hid (grown_trans' G1.out g2); clear o2 g2)
  go_ret2
  exact ov_quiet HG.out HS.out rfl (OB.own O2.out) G2.out (fun _ => ⟨fun e => (by cases e), fun e => (by cases e), fun e => by rcases e with e | e | e | e <;> cases e⟩)
set_option maxRecDepth 20000 in
set_option maxHeartbeats 8000000 in
theorem over_mkdir (h : SG w0 w sb tb mb M N) (hS : SndM M) (who : ByteArray) (hw : who.size ≤ 100) (A : Option Addr) (p : List UInt8) (n cap : Nat) (ha : Args w A [p] n cap) :
    Calls Tryz.prog 119 #[.pointer (some ⟨sb, 0, none⟩), .string who, .string ⟨cMkdir.toArray⟩, .slice A n cap] w (OvR w0 w sb tb mb M N who cMkdir [p]) := by
  have hn : 1 = n := ha.n
  subst hn
  obtain ⟨b, off, rfl⟩ := ha.some_ (by omega)
  have k0 := sg_at0 h
  have k1 := ha.at2 (k := 0) rfl
  rw [Nat.add_zero] at k1
  have hp := ha.short p (by simp)
  have HG := Lib.hid h
  have HA := Lib.hid ha
  have HS := Lib.hid hS
  have K0 := Lib.hid k0
  have K1 := Lib.hid k1
  have HW := Lib.hid hw
  have hSS := hS
  have RD := Lib.hid (fun (W : World) (hW : SG w0 W sb tb mb M N) => s_mkdir hW hSS who ⟨p.toArray⟩ hw p rfl (by omega) 61)
  clear h hS ha hp hw
  go_enter Tryz.func119, Tryz.ntmps119
  go_wp2
  refine helds_begin (S1 w sb b) (by kernel_rfl) S1.drew (fun _ => ?_)
  refine helds_take (i := 0) (d := some 60) (v := ?vmkdir_1) (by assumption) rfl rfl (by kernel_rfl) (fun _ _ _ h => h) ?ymkdir_1 ?_; case ymkdir_1 => (refine Or.inl ⟨rfl, fun wx hS => ?_⟩; go_simp; try with_reducible rfl)
  try simp only [Act.put, List.setIfInBounds_toArray, List.set_cons_zero, List.set_cons_succ]
  refine helds_take (i := 1) (d := some 61) (v := ?vmkdir_2) (by assumption) rfl rfl (by kernel_rfl) (fun _ _ _ h => h) ?ymkdir_2 ?_; case ymkdir_2 => (refine Or.inl ⟨rfl, fun wx hS => ?_⟩; go_simp; try with_reducible rfl)
  try simp only [Act.put, List.setIfInBounds_toArray, List.set_cons_zero, List.set_cons_succ]
  refine helds_take (i := 2) (d := some 62) (v := ?vmkdir_3) (by assumption) rfl rfl (by kernel_rfl) (fun _ _ _ h => h) ?ymkdir_3 ?_; case ymkdir_3 => (refine Or.inl ⟨rfl, fun wx hS => ?_⟩; go_simp; try with_reducible rfl)
  try simp only [Act.put, List.setIfInBounds_toArray, List.set_cons_zero, List.set_cons_succ]
  refine helds_take (i := 3) (d := some 63) (v := ?vmkdir_4) (by assumption) rfl rfl (by kernel_rfl) (fun _ _ _ h => h) ?ymkdir_4 ?_; case ymkdir_4 => (refine Or.inl ⟨rfl, fun wx hS => ?_⟩; have q := (World.cell?_of_block hS.1).trans K0.out; go_simp; try with_reducible rfl)
  try simp only [Act.put, List.setIfInBounds_toArray, List.set_cons_zero, List.set_cons_succ]
  refine helds_take (i := 4) (d := some 64) (v := ?vmkdir_5) (by assumption) rfl rfl (by kernel_rfl) (fun _ _ _ h => h) ?ymkdir_5 ?_; case ymkdir_5 => (refine Or.inl ⟨rfl, fun wx hS => ?_⟩; go_simp; try with_reducible rfl)
  try simp only [Act.put, List.setIfInBounds_toArray, List.set_cons_zero, List.set_cons_succ]
  refine helds_take (i := 5) (d := some 65) (v := ?vmkdir_6) (by assumption) rfl rfl (by kernel_rfl) (fun _ _ _ h => h) ?ymkdir_6 ?_; case ymkdir_6 => (refine Or.inl ⟨rfl, fun wx hS => ?_⟩; go_simp; try with_reducible rfl)
  try simp only [Act.put, List.setIfInBounds_toArray, List.set_cons_zero, List.set_cons_succ]
  refine helds_take (i := 6) (d := some 66) (v := ?vmkdir_7) (by assumption) rfl rfl (by kernel_rfl) (fun _ _ _ h => h) ?ymkdir_7 ?_; case ymkdir_7 => (refine Or.inl ⟨rfl, fun wx hS => ?_⟩; go_simp; try with_reducible rfl)
  try simp only [Act.put, List.setIfInBounds_toArray, List.set_cons_zero, List.set_cons_succ]
  refine helds_take (i := 7) (d := some 67) (v := ?vmkdir_8) (by assumption) rfl rfl (by kernel_rfl) (fun _ _ _ h => h) ?ymkdir_8 ?_; case ymkdir_8 => (refine Or.inl ⟨rfl, fun wx hS => ?_⟩; have q := (World.cell?_of_block hS.2).trans K1.out; go_simp; try with_reducible rfl)
  try simp only [Act.put, List.setIfInBounds_toArray, List.set_cons_zero, List.set_cons_succ]
  refine helds_one (i := 8) rfl (by kernel_rfl) rfl (fun K hK => ?_)
  refine wp_callU (d := some 68) (f := 23) (args := #[.pointer (some ⟨tb, 0, none⟩), .string who, .string ⟨p.toArray⟩, .int .i64 61]) rfl (by first | rfl | go_simp) ?_
  refine (RD.out _ (HG.out.made (grown_drew (World.grownBy.refl w none)))).mono ?_
  rintro e w1 ⟨rfl, M', sw⟩
  have sw := sw.since (grown_drew (World.grownBy.refl w none))
  have hS8 : S1 w sb b w1 := S1.kp HG.out HA.out (Kp.of sw.2.2.1)
  have SWH := Lib.hid sw
  clear sw
  refine ⟨_, rfl, ?_⟩
  refine hK.out _ _ (by assumption) (fun _ => ?_)
  clear hK K
  try simp only [Act.put, List.setIfInBounds_toArray, List.set_cons_zero, List.set_cons_succ]
  refine helds_take (i := 9) (d := some 8) (v := ?vmkdir_9) (by assumption) rfl rfl (by kernel_rfl) (fun _ _ _ h => h) ?ymkdir_9 ?_; case ymkdir_9 => (refine Or.inl ⟨rfl, fun wx hS => ?_⟩; go_simp; try with_reducible rfl)
  try simp only [Act.put, List.setIfInBounds_toArray, List.set_cons_zero, List.set_cons_succ]
  refine helds_take (i := 10) (d := some 9) (v := ?vmkdir_10) (by assumption) rfl rfl (by kernel_rfl) (fun _ _ _ h => h) ?ymkdir_10 ?_; case ymkdir_10 => (refine Or.inl ⟨rfl, fun wx hS => ?_⟩; go_simp; try with_reducible rfl)
  try simp only [Act.put, List.setIfInBounds_toArray, List.set_cons_zero, List.set_cons_succ]
  refine held_end (by kernel_rfl) ?_ _
  clear k0 k1
  go_wp2
  go_ret2
  exact ov_loud (by unfold loudC; simp) rfl SWH.out (fun _ => ⟨fun e => (by cases e), fun e => (by cases e), fun _ => rfl⟩)
set_option maxRecDepth 20000 in
set_option maxHeartbeats 8000000 in
theorem over_rm (h : SG w0 w sb tb mb M N) (hS : SndM M) (who : ByteArray) (hw : who.size ≤ 100) (A : Option Addr) (p : List UInt8) (n cap : Nat) (ha : Args w A [p] n cap) :
    Calls Tryz.prog 119 #[.pointer (some ⟨sb, 0, none⟩), .string who, .string ⟨cRm.toArray⟩, .slice A n cap] w (OvR w0 w sb tb mb M N who cRm [p]) := by
  have hn : 1 = n := ha.n
  subst hn
  obtain ⟨b, off, rfl⟩ := ha.some_ (by omega)
  have k0 := sg_at0 h
  have k1 := ha.at2 (k := 0) rfl
  rw [Nat.add_zero] at k1
  have hp := ha.short p (by simp)
  have HG := Lib.hid h
  have HA := Lib.hid ha
  have HS := Lib.hid hS
  have K0 := Lib.hid k0
  have K1 := Lib.hid k1
  have HW := Lib.hid hw
  have hSS := hS
  have RD := Lib.hid (fun (W : World) (hW : SG w0 W sb tb mb M N) => s_remove hW hSS who ⟨p.toArray⟩ p rfl (by omega))
  clear h hS ha hp hw
  go_enter Tryz.func119, Tryz.ntmps119
  go_wp2
  refine helds_begin (S1 w sb b) (by kernel_rfl) S1.drew (fun _ => ?_)
  refine helds_take (i := 0) (d := some 71) (v := ?vrm_1) (by assumption) rfl rfl (by kernel_rfl) (fun _ _ _ h => h) ?yrm_1 ?_; case yrm_1 => (refine Or.inl ⟨rfl, fun wx hS => ?_⟩; go_simp; try with_reducible rfl)
  try simp only [Act.put, List.setIfInBounds_toArray, List.set_cons_zero, List.set_cons_succ]
  refine helds_take (i := 1) (d := some 72) (v := ?vrm_2) (by assumption) rfl rfl (by kernel_rfl) (fun _ _ _ h => h) ?yrm_2 ?_; case yrm_2 => (refine Or.inl ⟨rfl, fun wx hS => ?_⟩; go_simp; try with_reducible rfl)
  try simp only [Act.put, List.setIfInBounds_toArray, List.set_cons_zero, List.set_cons_succ]
  refine helds_take (i := 2) (d := some 73) (v := ?vrm_3) (by assumption) rfl rfl (by kernel_rfl) (fun _ _ _ h => h) ?yrm_3 ?_; case yrm_3 => (refine Or.inl ⟨rfl, fun wx hS => ?_⟩; go_simp; try with_reducible rfl)
  try simp only [Act.put, List.setIfInBounds_toArray, List.set_cons_zero, List.set_cons_succ]
  refine helds_take (i := 3) (d := some 74) (v := ?vrm_4) (by assumption) rfl rfl (by kernel_rfl) (fun _ _ _ h => h) ?yrm_4 ?_; case yrm_4 => (refine Or.inl ⟨rfl, fun wx hS => ?_⟩; have q := (World.cell?_of_block hS.1).trans K0.out; go_simp; try with_reducible rfl)
  try simp only [Act.put, List.setIfInBounds_toArray, List.set_cons_zero, List.set_cons_succ]
  refine helds_take (i := 4) (d := some 75) (v := ?vrm_5) (by assumption) rfl rfl (by kernel_rfl) (fun _ _ _ h => h) ?yrm_5 ?_; case yrm_5 => (refine Or.inl ⟨rfl, fun wx hS => ?_⟩; go_simp; try with_reducible rfl)
  try simp only [Act.put, List.setIfInBounds_toArray, List.set_cons_zero, List.set_cons_succ]
  refine helds_take (i := 5) (d := some 76) (v := ?vrm_6) (by assumption) rfl rfl (by kernel_rfl) (fun _ _ _ h => h) ?yrm_6 ?_; case yrm_6 => (refine Or.inl ⟨rfl, fun wx hS => ?_⟩; go_simp; try with_reducible rfl)
  try simp only [Act.put, List.setIfInBounds_toArray, List.set_cons_zero, List.set_cons_succ]
  refine helds_take (i := 6) (d := some 77) (v := ?vrm_7) (by assumption) rfl rfl (by kernel_rfl) (fun _ _ _ h => h) ?yrm_7 ?_; case yrm_7 => (refine Or.inl ⟨rfl, fun wx hS => ?_⟩; go_simp; try with_reducible rfl)
  try simp only [Act.put, List.setIfInBounds_toArray, List.set_cons_zero, List.set_cons_succ]
  refine helds_take (i := 7) (d := some 78) (v := ?vrm_8) (by assumption) rfl rfl (by kernel_rfl) (fun _ _ _ h => h) ?yrm_8 ?_; case yrm_8 => (refine Or.inl ⟨rfl, fun wx hS => ?_⟩; have q := (World.cell?_of_block hS.2).trans K1.out; go_simp; try with_reducible rfl)
  try simp only [Act.put, List.setIfInBounds_toArray, List.set_cons_zero, List.set_cons_succ]
  refine helds_one (i := 8) rfl (by kernel_rfl) rfl (fun K hK => ?_)
  refine wp_callU (d := some 79) (f := 17) (args := #[.pointer (some ⟨tb, 0, none⟩), .string who, .string ⟨p.toArray⟩]) rfl (by first | rfl | go_simp) ?_
  refine (RD.out _ (HG.out.made (grown_drew (World.grownBy.refl w none)))).mono ?_
  rintro e w1 ⟨rfl, M', sw⟩
  have sw := sw.since (grown_drew (World.grownBy.refl w none))
  have hS8 : S1 w sb b w1 := S1.kp HG.out HA.out (Kp.of sw.2.2.1)
  have SWH := Lib.hid sw
  clear sw
  refine ⟨_, rfl, ?_⟩
  refine hK.out _ _ (by assumption) (fun _ => ?_)
  clear hK K
  try simp only [Act.put, List.setIfInBounds_toArray, List.set_cons_zero, List.set_cons_succ]
  refine helds_take (i := 9) (d := some 8) (v := ?vrm_9) (by assumption) rfl rfl (by kernel_rfl) (fun _ _ _ h => h) ?yrm_9 ?_; case yrm_9 => (refine Or.inl ⟨rfl, fun wx hS => ?_⟩; go_simp; try with_reducible rfl)
  try simp only [Act.put, List.setIfInBounds_toArray, List.set_cons_zero, List.set_cons_succ]
  refine helds_take (i := 10) (d := some 9) (v := ?vrm_10) (by assumption) rfl rfl (by kernel_rfl) (fun _ _ _ h => h) ?yrm_10 ?_; case yrm_10 => (refine Or.inl ⟨rfl, fun wx hS => ?_⟩; go_simp; try with_reducible rfl)
  try simp only [Act.put, List.setIfInBounds_toArray, List.set_cons_zero, List.set_cons_succ]
  refine held_end (by kernel_rfl) ?_ _
  clear k0 k1
  go_wp2
  go_ret2
  exact ov_loud (by unfold loudC; simp) rfl SWH.out (fun _ => ⟨fun e => (by cases e), fun e => (by cases e), fun _ => rfl⟩)
/-- The arguments behind the first. -/
def tailA (b off cap : Nat) : Option Addr := if cap = 1 then some ⟨b, off, none⟩ else some ⟨b, off + 1, none⟩
theorem sr_tail {B b off cap : Nat} {c : List Value} {Cs : List (List Value)} (h : SR w B (some ⟨b, off, none⟩) 1 (c :: Cs) cap) : SR w B (tailA b off cap) 1 Cs (cap - 1) := by
  obtain ⟨h1, h2, h3⟩ := h
  rw [List.length_cons] at h1
  refine ⟨by omega, by omega, .inr ?_⟩
  rcases h3 with ⟨e, -⟩ | ⟨a, ha, hb, hc⟩
  · cases e
  · injection ha with ha
    subst ha
    by_cases he : cap = 1
    · have h0 : Cs = [] := List.eq_nil_of_length_eq_zero (by omega)
      subst h0
      exact ⟨⟨b, off, none⟩, by unfold tailA; rw [if_pos he], fun hp => by simp at hp, fun k c' hk => by simp at hk⟩
    · refine ⟨⟨b, off + 1, none⟩, by unfold tailA; rw [if_neg he], fun _ => hb (by simp), fun k c' hk j v hv => ?_⟩
      have := hc (k + 1) c' (by simpa using hk) j v hv
      rw [show off + 1 + 1 * k + j = off + 1 * (k + 1) + j by omega]
      exact this
theorem run_tailS {n cap b off : Nat} (h1 : 1 ≤ n) (h2 : n ≤ cap) (wx : World) : (Instr.sliceAt 47 (.slice (some ⟨b, off, none⟩) n cap) (some (.int .i64 1)) none none).run Tryz.prog wx = .ok (.slice (tailA b off cap) (n - 1) (cap - 1)) wx := by
  have ht : Tryz.prog.underlying 47 = some (.slice (Tryz.prog.elem 47)) := by kernel_rfl
  have hsz : (sizeOf (Tryz.prog.elem 47)).run Tryz.prog wx = .ok 1 wx := by kernel_rfl
  rw [run_sliceAt_slice _ _ _ _ _ _ ht, run_slice_l _ _ _ _ _ ht _ _ (by omega) (by omega), hsz]
  unfold tailA
  by_cases he : cap = 1
  · subst he
    simp [sliced, Result.andThen]
  · simp [sliced, Result.andThen, he, Addr.add]
theorem wp_convO {o : Oper} {a : Act} {K : Act → World → Prop} {Q : Exit → Act → World → Prop} {d : Option Tmp} {src : TypeId} (hd : o.dst = d) (hs : Tryz.prog.underlying src = some .string) (x : Operand) (ho : o.op = .convert src 29 x) (s : ByteArray) (hl : s.size ≤ 70368744177664) (n : Nat) (hn : s.size = n) (hx : a.eval x = .string s)
    (h : ∀ A cap w', OB w' (.slice A n cap) s.data.toList → w.grownBy w' none → K (a.put d (.slice A n cap)) w') : o.wp Tryz.prog a w K Q := by
  subst hd
  obtain ⟨A, cap, w', hrun, h2, h3, -⟩ := run_convO (w := w) hs s hl n hn
  unfold Oper.wp execOp
  simp only [ho, hx, Sem.run_bind, Sem.run_pure, Result.andThen_ok, hrun]
  exact h A cap w' h2 h3
theorem OB.rb {v : Value} {l : List UInt8} {A : Option Addr} {n cap : Nat} (h : OB w v l) (hv : v = .slice A n cap) : RB w w.heap.size A l cap ∧ l.length = n := by
  obtain ⟨A', c', h1, h2, -⟩ := h
  rw [hv] at h1
  injection h1 with e1 e2 e3
  subst e1 e2 e3
  exact ⟨h2, rfl⟩
set_option maxRecDepth 20000 in
set_option maxHeartbeats 8000000 in
theorem over_put (h : SG w0 w sb tb mb M N) (hS : SndM M) (who : ByteArray) (hw : who.size ≤ 100) (A : Option Addr) (p : List UInt8) (xs : List (List UInt8)) (n cap : Nat) (ha : Args w A (p :: xs) n cap) :
    Calls Tryz.prog 119 #[.pointer (some ⟨sb, 0, none⟩), .string who, .string ⟨cPut.toArray⟩, .slice A n cap] w (OvR w0 w sb tb mb M N who cPut (p :: xs)) := by
  have hn : xs.length + 1 = n := by have := ha.n; rwa [List.length_cons] at this
  obtain ⟨b, off, rfl⟩ := ha.some_ (by omega)
  have k0 := sg_at0 h
  have k1 := ha.at2 (k := 0) rfl
  rw [Nat.add_zero] at k1
  have hp := ha.short p (by simp)
  have hcap : n ≤ cap := by have h1 := ha.sr.1; rw [List.length_map, ha.n] at h1; exact h1
  have hni : (0 : Int) < (n : Int) := by omega
  have hn0 : 0 < n := by omega
  have hni1 : (1 : Int) ≤ (n : Int) := by omega
  have hnl : (n : Int) ≤ 9223372036854775807 := by have h2 := ha.sr.2.1; unfold maxLen at h2; omega
  have HG := Lib.hid h
  have HA := Lib.hid ha
  have HS := Lib.hid hS
  have K0 := Lib.hid k0
  have K1 := Lib.hid k1
  have HSL := Lib.hid (fun wx => run_tailS (b := b) (off := off) (show 1 ≤ n by omega) hcap wx)
  have JA := Lib.hid (fun (W : World) (hW : Args W (some ⟨b, off, none⟩) (p :: xs) n cap) => join_any W (tailA b off cap) xs (n - 1) (cap - 1) (by omega) (sr_tail hW.sr) (by have := hW.join.2; rw [List.tail_cons] at this; omega))
  have RD := Lib.hid (fun (W : World) (hW : SG w0 W sb tb mb M N) A l k c (hk : l.length = k) (hr : RB W W.heap.size A l c) => s_write hW hS who ⟨p.toArray⟩ hw p rfl (by omega) A l k c hk hr 60)
  have HJ := Lib.hid (show (Lib.join xs [32]).length ≤ 1000 by have := ha.join.2; rwa [List.tail_cons] at this)
  clear h hS ha hp hw hcap hn
  go_enter Tryz.func119, Tryz.ntmps119
  go_wp2
  refine helds_begin (S1 w sb b) (by kernel_rfl) S1.drew (fun _ => ?_)
  refine helds_take (i := 0) (d := some 45) (v := ?vput_1) (by assumption) rfl rfl (by kernel_rfl) (fun _ _ _ h => h) ?yput_1 ?_; case yput_1 => (refine Or.inl ⟨rfl, fun wx hS => ?_⟩; go_simp; try with_reducible rfl)
  try simp only [Act.put, List.setIfInBounds_toArray, List.set_cons_zero, List.set_cons_succ]
  refine helds_take (i := 1) (d := some 46) (v := ?vput_2) (by assumption) rfl rfl (by kernel_rfl) (fun _ _ _ h => h) ?yput_2 ?_; case yput_2 => (refine Or.inl ⟨rfl, fun wx hS => ?_⟩; go_simp; try with_reducible rfl)
  try simp only [Act.put, List.setIfInBounds_toArray, List.set_cons_zero, List.set_cons_succ]
  refine helds_take (i := 2) (d := some 47) (v := ?vput_3) (by assumption) rfl rfl (by kernel_rfl) (fun _ _ _ h => h) ?yput_3 ?_; case yput_3 => (refine Or.inl ⟨rfl, fun wx hS => ?_⟩; go_simp; try with_reducible rfl)
  try simp only [Act.put, List.setIfInBounds_toArray, List.set_cons_zero, List.set_cons_succ]
  refine helds_take (i := 3) (d := some 48) (v := ?vput_4) (by assumption) rfl rfl (by kernel_rfl) (fun _ _ _ h => h) ?yput_4 ?_; case yput_4 => (refine Or.inl ⟨rfl, fun wx hS => ?_⟩; have q := (World.cell?_of_block hS.1).trans K0.out; go_simp; try with_reducible rfl)
  try simp only [Act.put, List.setIfInBounds_toArray, List.set_cons_zero, List.set_cons_succ]
  refine helds_take (i := 4) (d := some 49) (v := ?vput_5) (by assumption) rfl rfl (by kernel_rfl) (fun _ _ _ h => h) ?yput_5 ?_; case yput_5 => (refine Or.inl ⟨rfl, fun wx hS => ?_⟩; go_simp; try with_reducible rfl)
  try simp only [Act.put, List.setIfInBounds_toArray, List.set_cons_zero, List.set_cons_succ]
  refine helds_take (i := 5) (d := some 50) (v := ?vput_6) (by assumption) rfl rfl (by kernel_rfl) (fun _ _ _ h => h) ?yput_6 ?_; case yput_6 => (refine Or.inl ⟨rfl, fun wx hS => ?_⟩; go_simp; try with_reducible rfl)
  try simp only [Act.put, List.setIfInBounds_toArray, List.set_cons_zero, List.set_cons_succ]
  refine helds_take (i := 6) (d := some 51) (v := ?vput_7) (by assumption) rfl rfl (by kernel_rfl) (fun _ _ _ h => h) ?yput_7 ?_; case yput_7 => (refine Or.inl ⟨rfl, fun wx hS => ?_⟩; go_simp; try with_reducible rfl)
  try simp only [Act.put, List.setIfInBounds_toArray, List.set_cons_zero, List.set_cons_succ]
  refine helds_take (i := 7) (d := some 52) (v := ?vput_8) (by assumption) rfl rfl (by kernel_rfl) (fun _ _ _ h => h) ?yput_8 ?_; case yput_8 => (refine Or.inl ⟨rfl, fun wx hS => ?_⟩; have q := (World.cell?_of_block hS.2).trans K1.out; go_simp; try with_reducible rfl)
  try simp only [Act.put, List.setIfInBounds_toArray, List.set_cons_zero, List.set_cons_succ]
  refine helds_take (i := 8) (d := some 53) (v := ?vput_9) (by assumption) rfl rfl (by kernel_rfl) (fun _ _ _ h => h) ?yput_9 ?_; case yput_9 => (refine Or.inl ⟨rfl, fun wx hS => ?_⟩; go_simp; try with_reducible rfl)
  try simp only [Act.put, List.setIfInBounds_toArray, List.set_cons_zero, List.set_cons_succ]
  refine helds_take (i := 9) (d := some 54) (v := ?vput_10) (by assumption) rfl rfl (by kernel_rfl) (fun _ _ _ h => h) ?yput_10 ?_; case yput_10 => (refine Or.inl ⟨rfl, fun wx hS => ?_⟩; have q := HSL.out wx; go_simp; try with_reducible rfl)
  try simp only [Act.put, List.setIfInBounds_toArray, List.set_cons_zero, List.set_cons_succ]
  refine helds_one (i := 10) rfl (by kernel_rfl) rfl (fun K hK => ?_)
  refine wp_callU (d := some 55) (f := 117) (args := #[.slice (tailA b off cap) (n - 1) (cap - 1), .string ⟨#[32]⟩]) rfl (by first | rfl | go_simp) ?_
  refine (JA.out _ (HA.out.made (grown_drew (World.grownBy.refl w none)))).mono ?_
  rintro e w1 ⟨t, rfl, ht, g1⟩
  have g1 := grown_trans' (grown_drew (World.grownBy.refl w none)) g1
  have hS1 : S1 w sb b w1 := S1.kp HG.out HA.out (Kp.none g1)
  have G1 := Lib.hid g1
  have HT := Lib.hid ht
  have HTS := Lib.hid (show t.size ≤ 1000 by have h1 : t.data.toList.length = t.size := rfl; rw [ht] at h1; have := HJ.out; omega)
  clear g1 ht
  refine ⟨_, rfl, ?_⟩
  refine hK.out _ _ (by assumption) (fun _ => ?_)
  clear hK K
  try simp only [Act.put, List.setIfInBounds_toArray, List.set_cons_zero, List.set_cons_succ]
  refine helds_one (i := 11) rfl (by kernel_rfl) rfl (fun K hK => ?_)
  refine wp_convO (d := some 56) rfl Tryz.underlying9 (.tmp 55) rfl t (by have := HTS.out; omega) _ rfl (by first | rfl | go_simp) ?_
  intro A2 c2 w2 o2 g2
  have g2 := grown_trans' G1.out g2
  have hS2 : S1 w sb b w2 := S1.kp HG.out HA.out (Kp.none g2)
  have G2 := Lib.hid g2
  rw [HT.out] at o2
  have O2 := Lib.hid o2
  clear g2 o2
  refine hK.out _ _ (by assumption) (fun _ => ?_)
  clear hK K
  try simp only [Act.put, List.setIfInBounds_toArray, List.set_cons_zero, List.set_cons_succ]
  refine helds_one (i := 12) rfl (by kernel_rfl) rfl (fun K hK => ?_)
  refine wp_callU (d := some 57) (f := 25) (args := #[.pointer (some ⟨tb, 0, none⟩), .string who, .string ⟨p.toArray⟩, .slice A2 t.size c2, .int .i64 60]) rfl (by first | rfl | go_simp) ?_
  refine (RD.out _ (HG.out.made G2.out) A2 (Lib.join xs [32]) t.size c2 (O2.out.rb rfl).2 (O2.out.rb rfl).1).mono ?_
  rintro e w3 ⟨rfl, M', sw, hput⟩
  have sw := sw.since G2.out
  have hS3 : S1 w sb b w3 := S1.kp HG.out HA.out (Kp.of sw.2.2.1)
  have SWH := Lib.hid sw
  have HPUT := Lib.hid hput
  have HKT := Lib.hid (O2.out.rb rfl).2
  clear sw hput
  refine ⟨_, rfl, ?_⟩
  refine hK.out _ _ (by assumption) (fun _ => ?_)
  clear hK K
  try simp only [Act.put, List.setIfInBounds_toArray, List.set_cons_zero, List.set_cons_succ]
  refine helds_take (i := 13) (d := some 8) (v := ?vput_11) (by assumption) rfl rfl (by kernel_rfl) (fun _ _ _ h => h) ?yput_11 ?_; case yput_11 => (refine Or.inl ⟨rfl, fun wx hS => ?_⟩; go_simp; try with_reducible rfl)
  try simp only [Act.put, List.setIfInBounds_toArray, List.set_cons_zero, List.set_cons_succ]
  refine helds_take (i := 14) (d := some 9) (v := ?vput_12) (by assumption) rfl rfl (by kernel_rfl) (fun _ _ _ h => h) ?yput_12 ?_; case yput_12 => (refine Or.inl ⟨rfl, fun wx hS => ?_⟩; go_simp; try with_reducible rfl)
  try simp only [Act.put, List.setIfInBounds_toArray, List.set_cons_zero, List.set_cons_succ]
  refine held_end (by kernel_rfl) ?_ _
  clear k0 k1
  go_wp2
  go_ret2
  rw [← HKT.out] at SWH HPUT ⊢
  exact ov_loud (by unfold loudC; simp) rfl SWH.out (fun h0 => ⟨fun e => (by cases e), fun _ hl => HPUT.out h0 hl, fun _ => rfl⟩)
theorem num_digits {a : List UInt8} (h : numOk a = true) : ∀ b ∈ a, digit b = true := by
  unfold numOk at h
  simp only [Bool.and_eq_true] at h
  exact List.all_eq_true.1 h.1.2
theorem num_len {a : List UInt8} (h : numOk a = true) : a.length ≤ 3 := by
  unfold numOk at h
  simp only [Bool.and_eq_true, decide_eq_true_eq] at h
  exact h.1.1
theorem num_le {a : List UInt8} (h : numOk a = true) : valF a ≤ 255 := by
  unfold numOk at h
  simp only [Bool.and_eq_true, decide_eq_true_eq] at h
  exact h.2
set_option maxRecDepth 20000 in
set_option maxHeartbeats 8000000 in
theorem over_chmod (h : SG w0 w sb tb mb M N) (hS : SndM M) (who : ByteArray) (hw : who.size ≤ 100) (A : Option Addr) (a q : List UInt8) (hnum : numOk a = true) (n cap : Nat) (ha : Args w A [a, q] n cap) :
    Calls Tryz.prog 119 #[.pointer (some ⟨sb, 0, none⟩), .string who, .string ⟨cChmod.toArray⟩, .slice A n cap] w (OvR w0 w sb tb mb M N who cChmod [a, q]) := by
  have hn : 2 = n := ha.n
  subst hn
  obtain ⟨b, off, rfl⟩ := ha.some_ (by omega)
  have k0 := sg_at0 h
  have k1 := ha.at2 (k := 0) rfl
  have k2 := ha.at2 (k := 1) rfl
  rw [Nat.add_zero] at k1
  have hp := ha.short q (by simp)
  have HG := Lib.hid h
  have HA := Lib.hid ha
  have HS := Lib.hid hS
  have K0 := Lib.hid k0
  have K1 := Lib.hid k1
  have K2 := Lib.hid k2
  have HW := Lib.hid hw
  have VA := Lib.hid (fun (W : World) => value_any W ⟨a.toArray⟩ a rfl (num_digits hnum) (num_len hnum))
  have RD := Lib.hid (fun (W : World) (hW : SG w0 W sb tb mb M N) => s_chmod hW hS who ⟨q.toArray⟩ q rfl (by omega) (valF a))
  clear h hS ha hp hw hnum
  go_enter Tryz.func119, Tryz.ntmps119
  go_wp2
  refine helds_begin (S1 w sb b) (by kernel_rfl) S1.drew (fun _ => ?_)
  refine helds_take (i := 0) (d := some 80) (v := ?vchm_1) (by assumption) rfl rfl (by kernel_rfl) (fun _ _ _ h => h) ?ychm_1 ?_; case ychm_1 => (refine Or.inl ⟨rfl, fun wx hS => ?_⟩; go_simp; try with_reducible rfl)
  try simp only [Act.put, List.setIfInBounds_toArray, List.set_cons_zero, List.set_cons_succ]
  refine helds_take (i := 1) (d := some 81) (v := ?vchm_2) (by assumption) rfl rfl (by kernel_rfl) (fun _ _ _ h => h) ?ychm_2 ?_; case ychm_2 => (refine Or.inl ⟨rfl, fun wx hS => ?_⟩; go_simp; try with_reducible rfl)
  try simp only [Act.put, List.setIfInBounds_toArray, List.set_cons_zero, List.set_cons_succ]
  refine helds_take (i := 2) (d := some 82) (v := ?vchm_3) (by assumption) rfl rfl (by kernel_rfl) (fun _ _ _ h => h) ?ychm_3 ?_; case ychm_3 => (refine Or.inl ⟨rfl, fun wx hS => ?_⟩; go_simp; try with_reducible rfl)
  try simp only [Act.put, List.setIfInBounds_toArray, List.set_cons_zero, List.set_cons_succ]
  refine helds_take (i := 3) (d := some 83) (v := ?vchm_4) (by assumption) rfl rfl (by kernel_rfl) (fun _ _ _ h => h) ?ychm_4 ?_; case ychm_4 => (refine Or.inl ⟨rfl, fun wx hS => ?_⟩; have q := (World.cell?_of_block hS.1).trans K0.out; go_simp; try with_reducible rfl)
  try simp only [Act.put, List.setIfInBounds_toArray, List.set_cons_zero, List.set_cons_succ]
  refine helds_take (i := 4) (d := some 84) (v := ?vchm_5) (by assumption) rfl rfl (by kernel_rfl) (fun _ _ _ h => h) ?ychm_5 ?_; case ychm_5 => (refine Or.inl ⟨rfl, fun wx hS => ?_⟩; go_simp; try with_reducible rfl)
  try simp only [Act.put, List.setIfInBounds_toArray, List.set_cons_zero, List.set_cons_succ]
  refine helds_take (i := 5) (d := some 85) (v := ?vchm_6) (by assumption) rfl rfl (by kernel_rfl) (fun _ _ _ h => h) ?ychm_6 ?_; case ychm_6 => (refine Or.inl ⟨rfl, fun wx hS => ?_⟩; go_simp; try with_reducible rfl)
  try simp only [Act.put, List.setIfInBounds_toArray, List.set_cons_zero, List.set_cons_succ]
  refine helds_take (i := 6) (d := some 86) (v := ?vchm_7) (by assumption) rfl rfl (by kernel_rfl) (fun _ _ _ h => h) ?ychm_7 ?_; case ychm_7 => (refine Or.inl ⟨rfl, fun wx hS => ?_⟩; go_simp; try with_reducible rfl)
  try simp only [Act.put, List.setIfInBounds_toArray, List.set_cons_zero, List.set_cons_succ]
  refine helds_take (i := 7) (d := some 87) (v := ?vchm_8) (by assumption) rfl rfl (by kernel_rfl) (fun _ _ _ h => h) ?ychm_8 ?_; case ychm_8 => (refine Or.inl ⟨rfl, fun wx hS => ?_⟩; have q := (World.cell?_of_block hS.2).trans K2.out; go_simp; try with_reducible rfl)
  try simp only [Act.put, List.setIfInBounds_toArray, List.set_cons_zero, List.set_cons_succ]
  refine helds_take (i := 8) (d := some 88) (v := ?vchm_9) (by assumption) rfl rfl (by kernel_rfl) (fun _ _ _ h => h) ?ychm_9 ?_; case ychm_9 => (refine Or.inl ⟨rfl, fun wx hS => ?_⟩; go_simp; try with_reducible rfl)
  try simp only [Act.put, List.setIfInBounds_toArray, List.set_cons_zero, List.set_cons_succ]
  refine helds_take (i := 9) (d := some 89) (v := ?vchm_10) (by assumption) rfl rfl (by kernel_rfl) (fun _ _ _ h => h) ?ychm_10 ?_; case ychm_10 => (refine Or.inl ⟨rfl, fun wx hS => ?_⟩; go_simp; try with_reducible rfl)
  try simp only [Act.put, List.setIfInBounds_toArray, List.set_cons_zero, List.set_cons_succ]
  refine helds_take (i := 10) (d := some 90) (v := ?vchm_11) (by assumption) rfl rfl (by kernel_rfl) (fun _ _ _ h => h) ?ychm_11 ?_; case ychm_11 => (refine Or.inl ⟨rfl, fun wx hS => ?_⟩; have q := (World.cell?_of_block hS.2).trans K1.out; go_simp; try with_reducible rfl)
  try simp only [Act.put, List.setIfInBounds_toArray, List.set_cons_zero, List.set_cons_succ]
  refine helds_one (i := 11) rfl (by kernel_rfl) rfl (fun K hK => ?_)
  refine wp_callU (d := some 91) (f := 118) (args := #[.string ⟨a.toArray⟩]) rfl (by first | rfl | go_simp) ?_
  refine (VA.out _).mono ?_
  rintro e w1 ⟨rfl, hw1⟩
  have g1 : w.grownBy w1 none := by rw [hw1]; exact (grown_drew (World.grownBy.refl w none))
  have hS1 : S1 w sb b w1 := S1.kp HG.out HA.out (Kp.none g1)
  have G1 := Lib.hid g1
  clear g1 hw1
  refine ⟨_, rfl, ?_⟩
  refine hK.out _ _ (by assumption) (fun _ => ?_)
  clear hK K
  try simp only [Act.put, List.setIfInBounds_toArray, List.set_cons_zero, List.set_cons_succ]
  refine helds_one (i := 12) rfl (by kernel_rfl) rfl (fun K hK => ?_)
  refine wp_callU (d := some 92) (f := 19) (args := #[.pointer (some ⟨tb, 0, none⟩), .string who, .string ⟨q.toArray⟩, .int .i64 (valF a)]) rfl (by first | rfl | go_simp) ?_
  refine (RD.out _ (HG.out.made G1.out)).mono ?_
  rintro e w3 ⟨rfl, M', sw⟩
  have sw := sw.since G1.out
  have hS3 : S1 w sb b w3 := S1.kp HG.out HA.out (Kp.of sw.2.2.1)
  have SWH := Lib.hid sw
  clear sw
  refine ⟨_, rfl, ?_⟩
  refine hK.out _ _ (by assumption) (fun _ => ?_)
  clear hK K
  try simp only [Act.put, List.setIfInBounds_toArray, List.set_cons_zero, List.set_cons_succ]
  refine helds_take (i := 13) (d := some 8) (v := ?vchm_12) (by assumption) rfl rfl (by kernel_rfl) (fun _ _ _ h => h) ?ychm_12 ?_; case ychm_12 => (refine Or.inl ⟨rfl, fun wx hS => ?_⟩; go_simp; try with_reducible rfl)
  try simp only [Act.put, List.setIfInBounds_toArray, List.set_cons_zero, List.set_cons_succ]
  refine helds_take (i := 14) (d := some 9) (v := ?vchm_13) (by assumption) rfl rfl (by kernel_rfl) (fun _ _ _ h => h) ?ychm_13 ?_; case ychm_13 => (refine Or.inl ⟨rfl, fun wx hS => ?_⟩; go_simp; try with_reducible rfl)
  try simp only [Act.put, List.setIfInBounds_toArray, List.set_cons_zero, List.set_cons_succ]
  refine held_end (by kernel_rfl) ?_ _
  clear k0 k1 k2
  go_wp2
  go_ret2
  exact ov_loud (by unfold loudC; simp) rfl SWH.out (fun _ => ⟨fun e => (by cases e), fun e => (by cases e), fun _ => rfl⟩)
end
end Go.Proofs.YtlkchajkhplapaaGreatDoor
