/- What calls that only look answer, at both Trees. -/
import Derived.Test.YtjonnamemmleiaaGreatDoorUan
import Derived.Test.YtjonnamemmleiaaGreatDoorTsl
namespace Go.Proofs.YtjonnamemmleiaaGreatDoor
open Go.RowKit Go.Maps Go.WideMaps

set_option maxRecDepth 10000 in
set_option maxHeartbeats 2000000 in
theorem sameNames_true (w : World) (A B : Option Addr) (n ca cb : Nat) (ss : List (List UInt8)) (hn : ss.length = n) (hA : SR w w.heap.size A 1 (ss.map fun x => [kS x]) ca) (hB : SR w w.heap.size B 1 (ss.map fun x => [kS x]) cb) :
    Calls Tryz.prog 69 #[.slice A n ca, .slice B n cb] w fun e w' => e = .returned (.bool true) ∧ w.grownBy w' none := by
  have HA := Lib.hid hA
  have HB := Lib.hid hB
  have HN := Lib.hid hn
  have hnl : n ≤ 9223372036854775807 := by have h1 := hA.1; have := hA.2.1; rw [List.length_map] at h1; unfold maxLen at this; omega
  clear hn hA hB
  go_enter Tryz.func69, Tryz.ntmps69
  go_wp2
  go_loopw [5, 13] (fun _ i wr => ∃ k : Nat, i = .int .i64 k ∧ k ≤ n ∧ Hid (w.grownBy wr none)) (fun _ i _ => n - (intOf i).toNat)
  case atStart => exact ⟨0, rfl, Nat.zero_le _, World.grownBy.refl _ _⟩
  case round =>
    obtain ⟨k, rfl, hk, HG⟩ := hrel
    by_cases hlt : k < n
    · have hki : (k : Int) < (n : Int) := by omega
      have hks : k < ss.length := by rw [HN.out]; exact hlt
      obtain ⟨x, hx⟩ : ∃ x, ss[k] = x := ⟨_, rfl⟩
      obtain ⟨xs, hxs⟩ : ∃ xs : ByteArray, xs = ⟨x.toArray⟩ := ⟨_, rfl⟩
      obtain ⟨ba, oa, rfl, hba, ea⟩ := HA.out.elem (k := k) (by rw [List.length_map]; exact hks)
      obtain ⟨bb, ob, rfl, hbb, eb⟩ := HB.out.elem (k := k) (by rw [List.length_map]; exact hks)
      have be := below_of_none HG.out
      have hce : (ss.map fun x => [kS x])[k]'(by rw [List.length_map]; exact hks) = [.string xs] := by rw [List.getElem_map, hx, hxs]; rfl
      rw [hce] at ea eb
      have a0 : wr.cell? ⟨ba, oa + k, none⟩ = some (.string xs) := by
        have := (be.cell (p := ⟨ba, oa + 1 * k + 0, none⟩) hba).trans (ea 0 _ rfl)
        rwa [Nat.one_mul, Nat.add_zero] at this
      have b0 : wr.cell? ⟨bb, ob + k, none⟩ = some (.string xs) := by
        have := (be.cell (p := ⟨bb, ob + 1 * k + 0, none⟩) hbb).trans (eb 0 _ rfl)
        rwa [Nat.one_mul, Nat.add_zero] at this
      clear hks hx hxs ea eb hba hbb be hce
      go_wp2
      go_quiet (fail)
      go_wp2
      go_roundw
      case rel => exact ⟨k + 1, by go_num, by omega, grown_trans' HG.out (drewN_grown wr nq)⟩
      case measure => simp [intOf]; omega
    · have hki : ¬ (k : Int) < (n : Int) := by omega
      go_wp2
      go_ret
      exact ⟨rfl, HG.out⟩
/-- A byte of a row of the call's own is spoilt. -/
theorem spoil_at {w : World} {B n c : Nat} {A : Option Addr} {l : List UInt8} (h : OwnB w B 5 (.slice A n c) l) (hn : l.length = n) {i : Nat} (hi : i < n) :
    ∃ g cs, A = some ⟨g, 0, none⟩ ∧ CB w g 5 cs ∧ i < cs.length ∧ B ≤ g ∧ ∀ w', CB w' g 5 (cs.set i (.int .u8 238)) → OwnB w' B 5 (.slice A n c) (l.set i 238) := by
  rcases h.2 with ⟨hv, hl⟩ | ⟨g, cap, cur, hv, hb, hg, hnc, hm, hz, ht⟩
  · omega
  · injection hv with h1 h2 h3
    subst h1 h3
    have hlen : n ≤ cur.toList.length := by
      have h1 : cur.toList.length = cur.size := by simp
      omega
    refine ⟨g, cur.toList, rfl, hg, by omega, hb, fun w' hc => ⟨?_, .inr ⟨g, c, (cur.toList.set i (.int .u8 238)).toArray, ?_, hb, hc, ?_, hm, ?_, ?_⟩⟩⟩
    · rw [bcells_length]; omega
    · rw [List.length_set, hn]
    · rw [List.length_set]; exact hnc
    · simp; omega
    · rw [List.length_set, List.toList_toArray, List.take_set, ht]
      unfold bcells
      rw [List.map_set]
      rfl
/-- What Stat tells. -/
def StatD (w : World) (N : List (List UInt8 × Nd)) (who : ByteArray) (p : List UInt8) (P : ByteArray) (d : Bool) (o : ByteArray) (m : Nat) (l : List UInt8) (code : Int) : Prop :=
  match findR N who p with
  | (none, c) => P = ⟨#[]⟩ ∧ d = false ∧ o = ⟨#[]⟩ ∧ m = 0 ∧ l = [] ∧ code = c
  | (some n, _) => P = ⟨p.toArray⟩ ∧ d = n.dir ∧ o = n.owner ∧ m = n.mode ∧ OwnB w 0 5 n.data l ∧ code = 0
def ReadD (w : World) (N : List (List UInt8 × Nd)) (who : ByteArray) (p : List UInt8) (l : List UInt8) (code : Int) : Prop :=
  code = (readR N who p).2 ∧ match (readR N who p).1 with
  | none => l = []
  | some n => OwnB w 0 5 n.data l
def ListD (N : List (List UInt8 × Nd)) (who : ByteArray) (p : List UInt8) (ss : List (List UInt8)) (code : Int) : Prop :=
  code = listR N who p ∧ ((code ≠ 0 ∧ ss = []) ∨ (code = 0 ∧ Named N p ss))
section
variable {w0 w w' : World} {tb mb rb : Nat} {v : Value} {M N : List (List UInt8 × Nd)} {p : List UInt8} {n : Nd}
theorem StatD.keep {who P o : ByteArray} {d : Bool} {m : Nat} {l : List UInt8} {code : Int} (h : StatD w N who p P d o m l code) (hk : Keep w w') : StatD w' N who p P d o m l code := by
  unfold StatD at h ⊢
  split <;> rename_i hf <;> rw [hf] at h
  · exact h
  · exact ⟨h.1, h.2.1, h.2.2.1, h.2.2.2.1, hk _ _ h.2.2.2.2.1, h.2.2.2.2.2⟩
theorem ReadD.keep {who : ByteArray} {l : List UInt8} {code : Int} (h : ReadD w N who p l code) (hk : Keep w w') : ReadD w' N who p l code := by
  unfold ReadD at h ⊢
  refine ⟨h.1, ?_⟩
  have h2 := h.2
  split <;> rename_i hf <;> rw [hf] at h2
  · exact h2
  · exact hk _ _ h2
/-- What the program's Stat answers. -/
def LStat (w : World) (N : List (List UInt8 × Nd)) (who : ByteArray) (p : List UInt8) (e : Ending) (w' : World) : Prop :=
  ∃ P d o m l code A k c, e = .returned (.tuple #[.agg (nodeC P d o m (.slice A k c)).toArray, .int .i64 code]) ∧ OwnB w' w.heap.size 5 (.slice A k c) l ∧ l.length = k ∧ StatD w' N who p P d o m l code ∧ w.grownBy w' none
theorem l_stat (h : PR w0 w tb mb M rb v N) (who s : ByteArray) (hp : s.data.toList = p) (hs : p.length ≤ 300) :
    Calls Tryz.prog 37 #[.pointer (some ⟨tb, 0, none⟩), .string who, .string s] w fun e w' => LStat w N who p e w' := by
  refine (stat_any w tb mb M h.tg.ts h.snd.short who s p hp (by omega)).mono (fun e w' hh => ?_)
  obtain ⟨hb, hh⟩ := hh
  have hf2 := h.tw.find who p
  have hg := none_of_below hb (Nat.le_refl _)
  rcases hh with ⟨c, h0, hf, rfl⟩ | ⟨n, A, c, l, hin, hf, ho, rfl, ho2⟩
  · rw [hf] at hf2
    have hN : findR N who p = (none, c) := by
      have h1 := hf2.2.none_
      have h2 := hf2.1
      cases hx : findR N who p with
      | mk a b => rw [hx] at h1 h2; simp only at h1 h2; rw [h1, ← h2]
    exact ⟨⟨#[]⟩, false, ⟨#[]⟩, 0, [], c, none, 0, 0, rfl, OwnB.nil_ _ _ _, rfl, by unfold StatD; rw [hN]; exact ⟨rfl, rfl, rfl, rfl, rfl, rfl⟩, hg⟩
  · rw [hf] at hf2
    obtain ⟨m, hm, h1, h2, h3, l', h4, h5⟩ := hf2.2.some_
    have hll : l = l' := ho.uniq h4
    subst hll
    have hN : findR N who p = (some m, 0) := by
      have h2 := hf2.1
      cases hx : findR N who p with
      | mk a b => rw [hx] at hm h2; simp only at hm h2; rw [hm, ← h2]
    exact ⟨⟨p.toArray⟩, n.dir, n.owner, n.mode, l, 0, A, l.length, c, rfl, ho2, rfl, by unfold StatD; rw [hN]; exact ⟨rfl, h1, h2, h3, h5.below hb, rfl⟩, hg⟩
def RStat (w : World) (P : ByteArray) (d : Bool) (o : ByteArray) (m : Nat) (l : List UInt8) (code : Int) (e : Ending) (w' : World) : Prop :=
  ∃ A k c, e = .returned (.tuple #[.agg (nodeC P d o m (.slice A k c)).toArray, .int .i64 code]) ∧ OwnB w' 0 5 (.slice A k c) l ∧ w.grownBy w' none
theorem r_stat (h : RT w rb v N) (who s : ByteArray) (hp : s.data.toList = p) (hs : p.length ≤ 300) {P o : ByteArray} {d : Bool} {m : Nat} {l : List UInt8} {code : Int} (hD : StatD w N who p P d o m l code) :
    Calls Tryz.prog 65 #[.pointer (some ⟨rb, 0, none⟩), .string who, .string s] w fun e w' => RStat w P d o m l code e w' := by
  refine (rstat_any w rb v N h who s p hp hs).mono (fun e w' hh => ?_)
  obtain ⟨hh, hg⟩ := hh
  unfold StatD at hD
  cases hx : findR N who p with
  | mk a b =>
    rw [hx] at hD hh
    cases a with
    | none =>
      obtain ⟨rfl, rfl, rfl, rfl, rfl, rfl⟩ := hD
      exact ⟨none, 0, 0, hh, OwnB.nil_ _ _ _, hg⟩
    | some n =>
      obtain ⟨rfl, rfl, rfl, rfl, ho, rfl⟩ := hD
      obtain ⟨A, c, hv, -, -⟩ := ho.shape
      simp only [ndC] at hh
      rw [hv] at hh ho
      exact ⟨A, l.length, c, hh, ho.below (below_of_none hg), hg⟩
def LRead (w : World) (N : List (List UInt8 × Nd)) (who : ByteArray) (p : List UInt8) (e : Ending) (w' : World) : Prop :=
  ∃ l code A k c, e = .returned (.tuple #[.slice A k c, .int .i64 code]) ∧ OwnB w' w.heap.size 5 (.slice A k c) l ∧ l.length = k ∧ ReadD w' N who p l code ∧ w.grownBy w' none
theorem l_read (h : PR w0 w tb mb M rb v N) (who s : ByteArray) (hp : s.data.toList = p) (hs : p.length ≤ 300) :
    Calls Tryz.prog 66 #[.pointer (some ⟨tb, 0, none⟩), .string who, .string s] w fun e w' => LRead w N who p e w' := by
  refine (read_any w tb mb M h.tg.ts who s p hp (by omega)).mono (fun e w' hh => ?_)
  obtain ⟨hb, hh⟩ := hh
  obtain ⟨r1, r2⟩ := h.tw.readR who p
  have hg := none_of_below hb (Nat.le_refl _)
  cases hx : (readR M who p).1 with
  | none =>
    rw [hx] at hh r2
    exact ⟨[], (readR N who p).2, none, 0, 0, by rw [← r1]; exact hh, OwnB.nil_ _ _ _, rfl, ⟨rfl, by rw [r2.none_]⟩, hg⟩
  | some n =>
    rw [hx] at hh r2
    obtain ⟨A, c, l, h1, h2, h3⟩ := hh
    obtain ⟨m, hm, -, -, -, l', h4, h5⟩ := r2.some_
    have hll : l = l' := h1.uniq h4
    subst hll
    have hz : (readR M who p).2 = 0 := by
      have hfc := findR_cases M who p
      unfold readR at hx ⊢
      rcases hfc with ⟨c, -, hf⟩ | ⟨n', -, hf⟩
      · rw [hf] at hx; cases hx
      · rw [hf] at hx ⊢
        simp only at hx ⊢
        split at hx
        · cases hx
        · rename_i q1
          rw [if_neg q1]
          split at hx
          · cases hx
          · rename_i q2
            rw [if_neg q2]
    exact ⟨l, 0, A, l.length, c, h2, h3, rfl, ⟨by rw [← r1, hz], by rw [hm]; exact h5.below hb⟩, hg⟩
def RRead (w : World) (l : List UInt8) (code : Int) (e : Ending) (w' : World) : Prop :=
  ∃ A k c, e = .returned (.tuple #[.slice A k c, .int .i64 code]) ∧ OwnB w' 0 5 (.slice A k c) l ∧ l.length = k ∧ w.grownBy w' none
theorem r_read (h : RT w rb v N) (who s : ByteArray) (hp : s.data.toList = p) (hs : p.length ≤ 300) {l : List UInt8} {code : Int} (hD : ReadD w N who p l code) :
    Calls Tryz.prog 67 #[.pointer (some ⟨rb, 0, none⟩), .string who, .string s] w fun e w' => RRead w l code e w' := by
  refine (rread_any w rb v N h who s p hp hs).mono (fun e w' hh => ?_)
  obtain ⟨v', l2, rfl, h1, h2, hg⟩ := hh
  obtain ⟨rfl, hD⟩ := hD
  have hll : l2 = l := by
    cases hx : (readR N who p).1 with
    | none => rw [hx] at h2 hD; rw [h2, hD]
    | some n => rw [hx] at h2 hD; exact h2.uniq hD
  subst hll
  obtain ⟨A, c, rfl, -, -⟩ := h1.shape
  exact ⟨A, l2.length, c, rfl, OwnB.base_ h1 (Nat.zero_le _), rfl, hg⟩
def LList (w : World) (N : List (List UInt8 × Nd)) (who : ByteArray) (p : List UInt8) (e : Ending) (w' : World) : Prop :=
  ∃ ss code A k c, e = .returned (.tuple #[.slice A k c, .int .i64 code]) ∧ RowX w' w.heap.size 9 1 (.slice A k c) (ss.map fun x => [kS x]) ∧ ss.length = k ∧ ListD N who p ss code ∧ w.grownBy w' none
theorem l_list (h : PR w0 w tb mb M rb v N) (who s : ByteArray) (hp : s.data.toList = p) (hs : p.length ≤ 300) :
    Calls Tryz.prog 38 #[.pointer (some ⟨tb, 0, none⟩), .string who, .string s] w fun e w' => LList w N who p e w' := by
  refine (list_any w tb mb M h.tg.ts (by have := h.snd.len; omega) h.snd.slashed who s p hp (by omega)).mono (fun e w' hh => ?_)
  obtain ⟨hb, hh⟩ := hh
  have hg := none_of_below hb (Nat.le_refl _)
  have hl := h.tw.listR who p
  rcases hh with ⟨h0, rfl⟩ | ⟨h0, u, ss, rfl, hn, ho⟩
  · exact ⟨[], listR M who p, none, 0, 0, rfl, RowX.nil_ _ _ _ _, rfl, ⟨hl, .inl ⟨h0, rfl⟩⟩, hg⟩
  · have hr := keys_row rfl ho
    obtain ⟨A, c, hv, -, -⟩ := hr.shape
    rw [List.length_map] at hv
    subst hv
    exact ⟨ss, 0, A, ss.length, c, rfl, hr, rfl, ⟨by rw [← hl, h0], .inr ⟨rfl, hn.1.trans (h.tw.kids h.tg.ts.tr.map.1.1 h.rt.nodup p), hn.2⟩⟩, hg⟩
def RList (w : World) (ss : List (List UInt8)) (code : Int) (e : Ending) (w' : World) : Prop :=
  ∃ A k c, e = .returned (.tuple #[.slice A k c, .int .i64 code]) ∧ RowX w' 0 9 1 (.slice A k c) (ss.map fun x => [kS x]) ∧ ss.length = k ∧ w.grownBy w' none
theorem PR.oks (h : PR w0 w tb mb M rb v N) : ∀ x ∈ N, pathOk x.1 = true ∧ x.1.length ≤ 300 := fun x hx => by
  obtain ⟨m, hm⟩ := mem_keysM.1 ((h.tw.keys x.1).2 (mem_keysM.2 ⟨x.2, hx⟩))
  have := h.snd.all _ _ hm
  exact ⟨this.1, this.2.1⟩
theorem r_list (h : PR w0 w tb mb M rb v N) (who s : ByteArray) (hp : s.data.toList = p) (hs : p.length ≤ 300) {ss : List (List UInt8)} {code : Int} (hD : ListD N who p ss code) :
    Calls Tryz.prog 68 #[.pointer (some ⟨rb, 0, none⟩), .string who, .string s] w fun e w' => RList w ss code e w' := by
  refine (rlist_any w rb v N h.rt h.oks who s p hp hs).mono (fun e w' hh => ?_)
  obtain ⟨v', s2, rfl, h1, h2, hg⟩ := hh
  obtain ⟨rfl, hD⟩ := hD
  have hss : s2 = ss := by
    rcases h2 with ⟨a, rfl⟩ | ⟨a, b⟩ <;> rcases hD with ⟨c, rfl⟩ | ⟨c, d⟩
    · rfl
    · exact absurd c a
    · exact absurd a c
    · exact sorted_one (b.1.trans d.1.symm) b.2 d.2
  subst hss
  obtain ⟨A, c, hv, -, -⟩ := h1.shape
  rw [List.length_map] at hv
  subst hv
  exact ⟨A, s2.length, c, rfl, h1.base_ (Nat.zero_le _), rfl, hg⟩
end
end Go.Proofs.YtjonnamemmleiaaGreatDoor
