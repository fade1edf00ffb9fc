/- A Shell beside its Tree: what calls leave, and what they answer. -/
import Derived.Test.YtlkchajkhplapaaGreatDoorShg
import Derived.Test.YtlkchajkhplapaaGreatDoorTtb
import Derived.Test.YtlkchajkhplapaaGreatDoorUaa
namespace Go.Proofs.YtlkchajkhplapaaGreatDoor
open Go.RowKit Go.Maps Go.WideMaps

/-- A call wrote over nothing that was there, or over one block, which isn't cells or is cells of one of these types. -/
def Chg (ts : List TypeId) (w w' : World) : Prop := ∃ r, w.grownBy w' r ∧ ∀ b, r = some b → ∀ cs t sh, w.heap[b]? = some (.cells cs t sh) → t ∈ ts
section
variable {w w' w2 : World} {ts : List TypeId}
theorem Chg.none (h : w.grownBy w' none) : Chg ts w w' := ⟨_, h, fun b e => by cases e⟩
theorem Chg.below (h : Below w.heap.size w w') : Chg ts w w' := Chg.none (none_of_below h (Nat.le_refl _))
theorem Chg.size (h : Chg ts w w') : w.heap.size ≤ w'.heap.size := by
  obtain ⟨r, hg, -⟩ := h
  exact hg.size
theorem Chg.block (h : Chg ts w w') {b : Nat} {cs : Array Value} {t : TypeId} {sh : Nat × Nat} (hb : w.heap[b]? = some (.cells cs t sh)) (ht : t ∉ ts) : w'.heap[b]? = some (.cells cs t sh) := by
  obtain ⟨r, hg, hr⟩ := h
  exact (hg.block b (Array.getElem?_eq_some_iff.1 hb).1 (fun e => ht (hr b e.symm _ _ _ hb))).trans hb
theorem Chg.cb (h : Chg ts w w') {g : Nat} {t : TypeId} {cs : List Value} (hc : CB w g t cs) (ht : t ∉ ts) : CB w' g t cs := h.block hc ht
theorem Chg.own (h : Chg ts w w') {base : Nat} {e : TypeId} {sz n : Nat} {v : Value} {cs : List Value} (hr : w.ownsRow base e sz v n cs) (he : e ∉ ts) : w'.ownsRow base e sz v n cs := by
  obtain ⟨r, hg, hh⟩ := h
  have hr' := hr
  rcases hr'.2 with ⟨rfl, _⟩ | ⟨g, _, _, rfl, _, hg', _⟩
  · exact World.ownsRow.kept hr hg (.inl rfl)
  · exact World.ownsRow.kept hr hg (.inr fun e' => he (hh g e'.symm _ _ _ hg'))
theorem Chg.row (h : Chg ts w w') {base : Nat} {e : TypeId} {sz : Nat} {v : Value} {Cs : List (List Value)} (hr : RowX w base e sz v Cs) (he : e ∉ ts) : RowX w' base e sz v Cs := ⟨h.own hr.1 he, hr.2⟩
theorem Chg.more (h : Chg ts w w') {us : List TypeId} (hs : ∀ t ∈ ts, t ∈ us) : Chg us w w' := by
  obtain ⟨r, hg, hh⟩ := h
  exact ⟨r, hg, fun b e cs t sh hb => hs t (hh b e cs t sh hb)⟩
/-- These bytes are what was put out. -/
def OB (w : World) (v : Value) (l : List UInt8) : Prop := ∃ A cap, v = .slice A l.length cap ∧ RB w w.heap.size A l cap ∧ ∀ a, A = some a → ∃ cs sh, w.heap[a.block]? = some (.cells cs 5 sh)
theorem OB.chg {v : Value} {l : List UInt8} (h : OB w v l) (hc : Chg ts w w') (ht : 5 ∉ ts) : OB w' v l := by
  obtain ⟨A, cap, hv, hr, hb⟩ := h
  refine ⟨A, cap, hv, ⟨hr.1, hr.2.1, ?_⟩, fun a ha => ?_⟩
  · rcases hr.2.2 with h | ⟨a, hA, hk⟩
    · exact .inl h
    · obtain ⟨cs, sh, hh⟩ := hb a hA
      refine .inr ⟨a, hA, fun k u hu => ⟨Nat.lt_of_lt_of_le (hk k u hu).1 hc.size, ?_⟩⟩
      have h2 := hc.block hh ht
      refine (World.cell?_of_block ?_).trans (hk k u hu).2
      rw [add_block, h2, hh]
  · obtain ⟨cs, sh, hh⟩ := hb a ha
    exact ⟨cs, sh, hc.block hh ht⟩
theorem OB.nil (w : World) : OB w (.slice none 0 0) [] := ⟨none, 0, rfl, RB.nil_ _ _, fun a ha => by cases ha⟩
theorem OB.own {base : Nat} {v : Value} {l : List UInt8} (h : OwnB w base 5 v l) : OB w v l := by
  obtain ⟨A, c, rfl, hr, -⟩ := h.shape
  refine ⟨A, c, rfl, hr, fun a ha => ?_⟩
  subst ha
  rcases h.2 with ⟨hv, _⟩ | ⟨g, _, _, hv, _, hg', _⟩
  · injection hv with h1; cases h1
  · injection hv with h1
    injection h1 with h1
    subst h1
    exact ⟨_, _, hg'⟩
end
/-- Each is what was run. -/
def RanOk (Cs : List (List Value)) : Prop := ∀ c ∈ Cs, ∃ (who line : ByteArray) (k : Int), c = [.string who, .string line, .int .i64 k] ∧ who.size ≤ 1000 ∧ line.size ≤ 1000
/-- A Shell: its Tree, and how much it has run. -/
structure SG (w0 w : World) (sb tb mb : Nat) (M : List (List UInt8 × Nd)) (n : Nat) : Prop where
  tg : TG w0 w tb mb M
  bs : w0.heap.size ≤ sb
  sh : ∃ v Cs, CB w sb 124 [.pointer (some ⟨tb, 0, none⟩), v] ∧ RowX w w0.heap.size 126 3 v Cs ∧ Cs.length = n ∧ RanOk Cs
theorem SG.chg {w0 w w' : World} {sb tb mb n : Nat} {M M' : List (List UInt8 × Nd)} (h : SG w0 w sb tb mb M n) (hc : Chg [63] w w') (ht : TG w0 w' tb mb M') : SG w0 w' sb tb mb M' n := by
  obtain ⟨v, Cs, h1, h2, h3⟩ := h.sh
  exact ⟨ht, h.bs, v, Cs, hc.cb h1 (by decide), hc.row h2 (by decide), h3⟩
theorem SG.made {w0 w w' : World} {sb tb mb n : Nat} {M : List (List UInt8 × Nd)} (h : SG w0 w sb tb mb M n) (hg : w.grownBy w' none) : SG w0 w' sb tb mb M n := h.chg (Chg.none hg) (h.tg.below (below_of_none hg))

/-! What the Tree's calls answer is small. -/
def Bd (c : Int) : Prop := 0 ≤ c ∧ c ≤ 200
theorem comeE_bd (M : List (List UInt8 × Nd)) (who : ByteArray) : ∀ ds, Bd (comeE M who ds)
  | [] => by unfold comeE Bd; decide
  | d :: ds => by
    have ih := comeE_bd M who ds
    unfold comeE
    cases M.lookup d with
    | none => show Bd 110; unfold Bd; decide
    | some n =>
      simp only
      split
      · unfold Bd; decide
      · split
        · unfold Bd; decide
        · exact ih
theorem comeR_bd (M : List (List UInt8 × Nd)) (who : ByteArray) (p : List UInt8) : Bd (comeR M who p).2 := by
  unfold comeR
  split
  · show Bd 30; unfold Bd; decide
  · split
    · show Bd 0; unfold Bd; decide
    · exact comeE_bd _ _ _
theorem findR_bd (M : List (List UInt8 × Nd)) (who : ByteArray) (p : List UInt8) : Bd (findR M who p).2 := by
  unfold findR
  split
  · unfold Bd; decide
  · split
    · cases M.lookup p
      · show Bd 110; unfold Bd; decide
      · show Bd 0; unfold Bd; decide
    · exact comeE_bd _ _ _
theorem readR_bd (M : List (List UInt8 × Nd)) (who : ByteArray) (p : List UInt8) : Bd (readR M who p).2 := by
  unfold readR
  split
  · exact findR_bd _ _ _
  · split
    · show Bd 113; unfold Bd; decide
    · split
      · show Bd 114; unfold Bd; decide
      · show Bd 0; unfold Bd; decide
theorem listR_bd (M : List (List UInt8 × Nd)) (who : ByteArray) (p : List UInt8) : Bd (listR M who p) := by
  unfold listR
  split
  · exact findR_bd _ _ _
  · split
    · unfold Bd; decide
    · split <;> (unfold Bd; decide)
theorem addC_bd (M : List (List UInt8 × Nd)) (who : ByteArray) (p : List UInt8) : Bd (addC M who p) := by
  unfold addC
  split
  · unfold Bd; decide
  · split
    · unfold Bd; decide
    · split <;> (unfold Bd; decide)
theorem mkdirC_bd (M : List (List UInt8 × Nd)) (who : ByteArray) (p : List UInt8) (m : Int) : Bd (mkdirC M who p m) := by
  unfold mkdirC
  split
  · exact comeR_bd _ _ _
  · split
    · unfold Bd; decide
    · split
      · unfold Bd; decide
      · exact addC_bd _ _ _
theorem writeC_bd (M : List (List UInt8 × Nd)) (who : ByteArray) (p : List UInt8) (k : Nat) (m : Int) : Bd (writeC M who p k m) := by
  unfold writeC
  split
  · exact comeR_bd _ _ _
  · split
    · unfold Bd; decide
    · split
      · unfold Bd; decide
      · split
        · exact addC_bd _ _ _
        · split
          · unfold Bd; decide
          · split <;> (unfold Bd; decide)
theorem chmodR_bd (M : List (List UInt8 × Nd)) (who : ByteArray) (p : List UInt8) (m : Int) : Bd (chmodR M who p m).1 := by
  unfold chmodR
  split
  · exact comeR_bd _ _ _
  · split
    · show Bd 1; unfold Bd; decide
    · split
      · show Bd 110; unfold Bd; decide
      · split
        · show Bd 114; unfold Bd; decide
        · show Bd 0; unfold Bd; decide
theorem removeC_bd (M : List (List UInt8 × Nd)) (who : ByteArray) (p : List UInt8) : Bd (removeC M who p) := by
  unfold removeC
  split
  · exact comeR_bd _ _ _
  · split
    · unfold Bd; decide
    · split
      · unfold Bd; decide
      · unfold Bd; decide
      · split <;> (unfold Bd; decide)
/-- What Remove answers. -/
def rmC (M : List (List UInt8 × Nd)) (who : ByteArray) (p : List UInt8) : Int := if removeC M who p = 0 ∧ kidsM M p ≠ [] then 115 else removeC M who p
theorem rmC_bd (M : List (List UInt8 × Nd)) (who : ByteArray) (p : List UInt8) : Bd (rmC M who p) := by
  unfold rmC
  split
  · unfold Bd; decide
  · exact removeC_bd _ _ _
theorem SndM.mode {M : List (List UInt8 × Nd)} {p : List UInt8} (h : SndM M) (m : Nat) : SndM (turn p (fun x => { x with mode := m }) M) := by
  obtain ⟨t, ht, htd⟩ := h.top
  have hkeep : ∀ q k, M.lookup q = some k → ∃ k', (turn p (fun x => { x with mode := m }) M).lookup q = some k' ∧ k'.dir = k.dir := fun q k hq => by
    rw [lookup_turn, hq]
    by_cases e : q = p
    · rw [if_pos e]; exact ⟨_, rfl, rfl⟩
    · rw [if_neg e]; exact ⟨_, rfl, rfl⟩
  refine ⟨?_, fun q k hq => ?_, fun q k hq hne => ?_, ?_⟩
  · obtain ⟨k', h1, h2⟩ := hkeep _ _ ht
    exact ⟨k', h1, h2.trans htd⟩
  · obtain ⟨m', hm1, ⟨rfl, rfl⟩ | ⟨_, rfl⟩⟩ := mem_turn hq
    · exact h.all _ m' hm1
    · exact h.all _ _ hm1
  · obtain ⟨m', hm1, -⟩ := mem_turn hq
    obtain ⟨k1, h1, h2⟩ := h.par q m' hm1 hne
    obtain ⟨k', h3, h4⟩ := hkeep _ _ h1
    exact ⟨k', h3, h4.trans h2⟩
  · have := congrArg List.length (keys_turn p (fun x => { x with mode := m }) M)
    unfold keysM at this
    rw [List.length_map, List.length_map] at this
    rw [this]; exact h.len

/-! The Tree's calls of a Shell. -/
section
variable {w0 w : World} {sb tb mb N : Nat} {M : List (List UInt8 × Nd)}
theorem chg_map (h : TS w tb mb M) {w' : World} (hg : w.grownBy w' (some mb)) : Chg [63] w w' :=
  ⟨_, hg, fun b e cs t sh hb => by
    injection e with e
    subst e
    obtain ⟨hf, es, clock, hmb, F⟩ := h.tr.map
    have := hb.symm.trans hmb
    injection this with this
    cases this⟩
theorem chg_node (h : TS w tb mb M) {w' : World} {p : List UInt8} {n : Nd} (hin : (p, n) ∈ M) (hg : w.grownBy w' (some n.blk)) : Chg [63] w w' :=
  ⟨_, hg, fun b e cs t sh hb => by
    injection e with e
    subst e
    have h2 := (h.tr.nodes _ _ hin).1
    have := hb.symm.trans h2
    injection this with this
    injection this with _ ht
    rw [ht]; simp⟩
/-- What a call that may write answers: a code; where that isn't 0 nothing has changed. -/
def SW (w0 w w' : World) (sb tb mb : Nat) (M : List (List UInt8 × Nd)) (N : Nat) (c : Int) (M' : List (List UInt8 × Nd)) : Prop := SG w0 w' sb tb mb M' N ∧ SndM M' ∧ Chg [63] w w' ∧ (c ≠ 0 → M' = M ∧ w.grownBy w' none)
theorem SW.no (h : SG w0 w sb tb mb M N) (hS : SndM M) {w' : World} (hb : Below w.heap.size w w') (c : Int) : SW w0 w w' sb tb mb M N c M :=
  have hg := none_of_below hb (Nat.le_refl _)
  ⟨h.made hg, hS, Chg.none hg, fun _ => ⟨rfl, hg⟩⟩
theorem s_mkdir (h : SG w0 w sb tb mb M N) (hS : SndM M) (who s : ByteArray) (hw : who.size ≤ 100) (p : List UInt8) (hp : s.data.toList = p) (hs : p.length ≤ 300) (m : Int) :
    Calls Tryz.prog 23 #[.pointer (some ⟨tb, 0, none⟩), .string who, .string s, .int .i64 m] w fun e w' => e = .returned (.int .i64 (mkdirC M who p m)) ∧ ∃ M', SW w0 w w' sb tb mb M N (mkdirC M who p m) M' := by
  subst hp
  by_cases hc : mkdirC M who s.data.toList m = 0
  · have hz : (comeR M who s.data.toList).2 = 0 ∧ M.lookup s.data.toList = none ∧ M.length < 64 := by
      unfold mkdirC at hc
      by_cases h1 : (comeR M who s.data.toList).2 ≠ 0
      · rw [if_pos h1] at hc; exact absurd hc h1
      rw [if_neg h1] at hc
      by_cases h2 : ¬ (0 ≤ m ∧ m ≤ 63)
      · rw [if_pos h2] at hc; cases hc
      rw [if_neg h2] at hc
      have h0 := Classical.byContradiction h1
      cases hl : M.lookup s.data.toList with
      | some n => rw [hl] at hc; cases hc
      | none => rw [hl] at hc; exact ⟨h0, rfl, add_lt h0 hS.top' hl hc⟩
    refine (mkdir_ok w tb mb M h.tg.ts hS.top' who s (by omega) _ rfl (by omega) m hc).mono ?_
    rintro e w' ⟨rfl, hp⟩
    obtain ⟨b, v, t, o⟩ := h.tg.put hp
    obtain ⟨A, c, hv, -, -⟩ := o.shape
    have hch : Chg [63] w w' := by
      obtain ⟨nd, -, -, -, -, -, hg, -⟩ := hp
      exact chg_map h.tg.ts hg
    rw [hc]
    exact ⟨rfl, _, h.chg hch t, hS.put _ hz.1 hz.2.1 hz.2.2 hs (show who.size ≤ 1000000 by omega) (fun _ => ⟨A, c, hv⟩), hch, fun e => absurd rfl e⟩
  · exact (mkdir_no w tb mb M h.tg.ts hS.top' (by have := hS.len; omega) who s _ rfl (by omega) m hc).mono fun _ _ hh => ⟨hh.1, M, SW.no h hS hh.2 _⟩
theorem s_chmod (h : SG w0 w sb tb mb M N) (hS : SndM M) (who s : ByteArray) (p : List UInt8) (hp : s.data.toList = p) (hs : p.length ≤ 300) (m : Nat) :
    Calls Tryz.prog 19 #[.pointer (some ⟨tb, 0, none⟩), .string who, .string s, .int .i64 m] w fun e w' => e = .returned (.int .i64 (chmodR M who p m).1) ∧ ∃ M', SW w0 w w' sb tb mb M N (chmodR M who p m).1 M' := by
  refine (chmod_any w tb mb M h.tg.ts.tr who s p hp (by omega) m).mono (fun e w' hh => ?_)
  obtain ⟨he, w1, hb, hw'⟩ := hh
  refine ⟨he, ?_⟩
  rcases hcr : chmodR M who p m with ⟨c, o⟩
  rw [hcr] at hw'
  cases o with
  | none =>
    subst hw'
    exact ⟨M, SW.no h hS hb _⟩
  | some n =>
    have hx : c = 0 ∧ M.lookup p = some n ∧ m < 64 := by
      unfold chmodR at hcr
      split at hcr
      · cases hcr
      · split at hcr
        · cases hcr
        · rename_i hm
          split at hcr
          · cases hcr
          · rename_i n' hl
            split at hcr
            · cases hcr
            · cases hcr
              exact ⟨rfl, hl, by omega⟩
    obtain ⟨rfl, hl, hm⟩ := hx
    have hin := lookup_in hl
    have h1 := h.tg.below hb
    have hg : w1.grownBy w' (some n.blk) := by rw [hw']; exact grownC_set _ _ _ _
    have hg0 : w.grownBy w' (some n.blk) := grown_trans' (grown_some (none_of_below hb (Nat.le_refl _)) _) hg
    have hch := chg_node h.tg.ts hin hg0
    have ht : TG w0 w' tb mb (turn p (fun x => { x with mode := m }) M) := by
      rw [hw']
      exact ⟨h1.ts.mode hin m hm, none_of h1.gr (grownC_set _ _ _ _) (h.tg.b3 _ _ hin), h.tg.b1, h.tg.b2, b3_turn h.tg.b3 _ (fun _ => rfl)⟩
    exact ⟨_, h.chg hch ht, hS.mode m, hch, fun e => absurd rfl e⟩
theorem s_remove (h : SG w0 w sb tb mb M N) (hS : SndM M) (who s : ByteArray) (p : List UInt8) (hp : s.data.toList = p) (hs : p.length ≤ 300) :
    Calls Tryz.prog 17 #[.pointer (some ⟨tb, 0, none⟩), .string who, .string s] w fun e w' => e = .returned (.int .i64 (rmC M who p)) ∧ ∃ M', SW w0 w w' sb tb mb M N (rmC M who p) M' := by
  by_cases hc : removeC M who p = 0
  · have h1 : p ≠ [47] := by
      intro h1
      unfold removeC at hc
      by_cases h2 : (comeR M who p).2 ≠ 0
      · rw [if_pos h2] at hc; exact h2 hc
      · rw [if_neg h2, if_pos h1] at hc; cases hc
    by_cases hk : kidsM M p = []
    · refine (remove_ok w tb mb M h.tg.ts who s p hp (by omega) hc (noKid_of hS.slashed hk)).mono ?_
      rintro e w' ⟨rfl, ht, hg⟩
      have e0 : rmC M who p = 0 := by unfold rmC; rw [if_neg (fun e => e.2 hk), hc]
      have hch := chg_map h.tg.ts hg
      rw [e0]
      exact ⟨rfl, _, h.chg hch ⟨ht, none_of h.tg.gr hg h.tg.b2, h.tg.b1, h.tg.b2, fun q n hq => h.tg.b3 q n (mem_without hq).1⟩, hS.del hk h1, hch, fun e => absurd rfl e⟩
    · refine (remove_full w tb mb M h.tg.ts (by have := hS.len; omega) hS.slashed who s p hp (by omega) hc hk).mono ?_
      rintro e w' ⟨rfl, hb⟩
      have e0 : rmC M who p = 115 := by unfold rmC; rw [if_pos ⟨hc, hk⟩]
      rw [e0]
      exact ⟨rfl, M, SW.no h hS hb _⟩
  · have e0 : rmC M who p = removeC M who p := by unfold rmC; rw [if_neg (fun e => hc e.1)]
    rw [e0]
    exact (remove_no w tb mb M h.tg.ts who s p hp (by omega) hc).mono fun _ _ hh => ⟨hh.1, M, SW.no h hS hh.2 _⟩
theorem s_write (h : SG w0 w sb tb mb M N) (hS : SndM M) (who s : ByteArray) (hw : who.size ≤ 100) (p : List UInt8) (hp : s.data.toList = p) (hs : p.length ≤ 300) (A : Option Addr) (l : List UInt8) (k cap : Nat) (hk : l.length = k) (hr : RB w w.heap.size A l cap) (m : Nat) :
    Calls Tryz.prog 25 #[.pointer (some ⟨tb, 0, none⟩), .string who, .string s, .slice A k cap, .int .i64 m] w fun e w' => e = .returned (.int .i64 (writeC M who p k m)) ∧ ∃ M', SW w0 w w' sb tb mb M N (writeC M who p k m) M' ∧
      (writeC M who p k m = 0 → M.lookup p = none → ∃ b v, M' = M ++ [(p, ⟨b, false, who, m, v⟩)] ∧ OwnB w' 0 5 v l) := by
  subst hp
  by_cases hc : writeC M who s.data.toList k m = 0
  · obtain ⟨hce, hm, hk1⟩ := writeC_zero hc
    have hc2 := hc
    unfold writeC at hc2
    rw [hce, if_neg (by decide), if_neg (by simpa using hm), if_neg (by omega)] at hc2
    cases hl : M.lookup s.data.toList with
    | none =>
      rw [hl] at hc2
      refine (write_put w tb mb M h.tg.ts hS.top' who s (by omega) _ rfl (by omega) A l k cap hk hr m hc hl).mono ?_
      rintro e w' ⟨rfl, hp⟩
      have hch : Chg [63] w w' := by
        obtain ⟨nd, -, -, -, -, -, hg, -⟩ := hp
        exact chg_map h.tg.ts hg
      obtain ⟨b, v, t, o⟩ := h.tg.put hp
      rw [hc]
      exact ⟨rfl, _, ⟨h.chg hch t, hS.put _ hce hl (add_lt hce hS.top' hl hc2) hs (show who.size ≤ 1000000 by omega) (fun e => by cases e), hch, fun e => absurd rfl e⟩, fun _ _ => ⟨b, v, by simp, o⟩⟩
    | some n =>
      rw [hl] at hc2
      simp only at hc2
      have hd : n.dir = false := by
        cases hd : n.dir with
        | false => rfl
        | true => rw [if_pos hd] at hc2; cases hc2
      refine (write_set w tb mb M h.tg.ts who s _ rfl (by omega) A l k cap hk hr m hc n hl).mono ?_
      rintro e w' ⟨rfl, v, ho, ht, hg⟩
      have hch := chg_node h.tg.ts (lookup_in hl) hg
      rw [hc]
      exact ⟨rfl, _, ⟨h.chg hch ⟨ht, none_of h.tg.gr hg (h.tg.b3 _ _ (lookup_in hl)), h.tg.b1, h.tg.b2, b3_turn h.tg.b3 _ (fun _ => rfl)⟩, hS.data h.tg.ts.tr.map.1.1 v hl hd, hch, fun e => absurd rfl e⟩, fun _ e => by cases e⟩
  · refine (write_no w tb mb M h.tg.ts hS.top' (by have := hS.len; omega) who s _ rfl (by omega) A k cap m hc).mono fun _ _ hh => ⟨hh.1, M, SW.no h hS hh.2 _, fun e => absurd e hc⟩
theorem s_read (h : SG w0 w sb tb mb M N) (who s : ByteArray) (p : List UInt8) (hp : s.data.toList = p) (hs : p.length ≤ 300) :
    Calls Tryz.prog 66 #[.pointer (some ⟨tb, 0, none⟩), .string who, .string s] w fun e w' => ∃ v out, e = .returned (.tuple #[v, .int .i64 (readR M who p).2]) ∧ w.grownBy w' none ∧ OB w' v out ∧ ((readR M who p).2 ≠ 0 → out = []) ∧ ∀ n l, (readR M who p).1 = some n → OwnB w 0 5 n.data l → out = l := by
  refine (read_any w tb mb M h.tg.ts who s p hp (by omega)).mono (fun e w' hh => ?_)
  obtain ⟨hb, hh⟩ := hh
  have hg := none_of_below hb (Nat.le_refl _)
  rcases hrr : readR M who p with ⟨o, c⟩
  rw [hrr] at hh
  cases o with
  | none => exact ⟨_, [], hh, hg, OB.nil _, fun _ => rfl, fun n l e => by cases e⟩
  | some n =>
    have h0 : c = 0 := by
      unfold readR at hrr
      split at hrr
      · cases hrr
      · split at hrr
        · cases hrr
        · split at hrr
          · cases hrr
          · cases hrr; rfl
    subst h0
    obtain ⟨A, c, l, h1, h2, h3⟩ := hh
    exact ⟨_, l, h2, hg, OB.own h3, fun e => absurd rfl e, fun n' l' e h1' => by cases e; exact h1.uniq h1'⟩
end
end Go.Proofs.YtlkchajkhplapaaGreatDoor
