/- The two Trees beside each other: what a call of either leaves. -/
import Derived.Test.YtjonnamemmleiaaGreatDoorUam
namespace Go.Proofs.YtjonnamemmleiaaGreatDoor
open Go.RowKit Go.Maps Go.WideMaps

section
variable {w0 w w' : World} {tb mb rb : Nat} {v : Value} {M N : List (List UInt8 × Nd)} {p : List UInt8} {n : Nd}
/-- Another block is written than those of a Tree. -/
theorem TS.far (h : TS w tb mb M) {r : Option Nat} (hg : w.grownBy w' r) (h1 : r ≠ some tb) (h2 : r ≠ some mb) (h3 : ∀ p n, (p, n) ∈ M → r ≠ some n.blk) (h4 : ∀ z, r = some z → ∀ dv l, OwnB w 0 5 dv l → dv.ownBlock ≠ some z) : TS w' tb mb M := by
  have hcb : ∀ {g t cs}, CB w g t cs → r ≠ some g → CB w' g t cs := fun {g t cs} hc hne => (hg.block g hc.lt (fun e => hne e.symm)).trans hc
  have htb : CB w tb 96 [.map (some mb)] := h.tr.top
  refine ⟨⟨hcb htb h1, h.tr.map.kept hg (fun e => h2 e.symm), fun p n hn => ⟨hcb (h.tr.nodes p n hn).1 (h3 p n hn), (h.tr.nodes p n hn).2⟩⟩, h.sep, fun p n hn => ?_, h.rsep⟩
  obtain ⟨l, ho, hl⟩ := h.row p n hn
  refine ⟨l, World.ownsRow.kept ho hg ?_, hl⟩
  cases r with
  | none => cases n.data.ownBlock <;> simp
  | some z => exact .inr (h4 z rfl _ _ ho)
/-- What a call of the program's did to its Tree. -/
def ChP (w w' : World) (mb : Nat) (M : List (List UInt8 × Nd)) : Prop := w.grownBy w' none ∨ w.grownBy w' (some mb) ∨ ∃ p n, (p, n) ∈ M ∧ w.grownBy w' (some n.blk)
structure PDone (w0 w w' : World) (tb mb : Nat) (M M' : List (List UInt8 × Nd)) (A : Act8) : Prop where
  tg : TG w0 w' tb mb M'
  snd : SndM M'
  did : DoneP w.heap.size w' M M' A
  ch : ChP w w' mb M
  blk : ∀ p n, (p, n) ∈ M' → (∃ q m, (q, m) ∈ M ∧ m.blk = n.blk) ∨ w.heap.size ≤ n.blk
def PDn (w0 w w' : World) (tb mb : Nat) (M : List (List UInt8 × Nd)) (A : Act8) : Prop := ∃ M', PDone w0 w w' tb mb M M' A
theorem SndM.turn2 (h : SndM M) (f : Nd → Nd) (hd : ∀ n, (f n).dir = n.dir) (hdat : ∀ n, (f n).data = n.data) (ho : ∀ n, n.owner.size ≤ 1000000 → (f n).owner.size ≤ 1000000) : SndM (turn p f M) := by
  have hlk : ∀ q m, M.lookup q = some m → m.dir = true → ∃ m', (turn p f M).lookup q = some m' ∧ m'.dir = true := fun q m hq hm => by
    rw [lookup_turn]
    by_cases e : q = p
    · rw [if_pos e, hq]; exact ⟨f m, rfl, by rw [hd]; exact hm⟩
    · rw [if_neg e]; exact ⟨m, hq, hm⟩
  refine ⟨?_, fun q m hm => ?_, fun q m hm hne => ?_, by unfold turn; rw [List.length_map]; exact h.len⟩
  · obtain ⟨m, h1, h2⟩ := h.top
    exact hlk _ _ h1 h2
  · obtain ⟨m0, hm0, ⟨rfl, rfl⟩ | ⟨hq, rfl⟩⟩ := mem_turn hm
    · obtain ⟨a1, a2, a3, a4⟩ := h.all _ _ hm0
      exact ⟨a1, a2, ho _ a3, fun e => by rw [hdat]; exact a4 (by rw [← hd]; exact e)⟩
    · exact h.all _ _ hm0
  · obtain ⟨m0, hm0, -⟩ := mem_turn hm
    obtain ⟨m1, h1, h2⟩ := h.par _ _ hm0 hne
    exact hlk _ _ h1 h2
theorem PDn.stay (h : TG w0 w tb mb M) (hS : SndM M) (hb : Below w.heap.size w w') : PDn w0 w w' tb mb M .stay :=
  ⟨M, h.below hb, hS, rfl, .inl (none_of_below hb (Nat.le_refl _)), fun q m hm => .inl ⟨q, m, hm, rfl⟩⟩
theorem PDn.put {dir : Bool} {owner : ByteArray} {mode : Nat} {l : List UInt8} (h : TG w0 w tb mb M) (hS : SndM M) (hP : Put w w' tb mb M p dir owner mode l) {who : ByteArray} (hc : (comeR M who p).2 = 0) (hl : M.lookup p = none) (hlen : M.length < 64) (hp : p.length ≤ 300) (ho : owner.size ≤ 1000000) (hd : dir = true → l = []) : PDn w0 w w' tb mb M (.put p dir owner mode l) := by
  obtain ⟨⟨b, d, o, m, dv⟩, rfl, rfl, rfl, h4, h5, h6, h7⟩ := hP
  refine ⟨M ++ [(p, ⟨b, d, o, m, dv⟩)], ⟨h4, none_of h.gr h6 h.b2, h.b1, h.b2, fun q n hq => ?_⟩, hS.put _ hc hl hlen hp ho (fun e => ?_), ⟨hl, b, dv, rfl, h5⟩, .inr (.inl h6), fun q n hq => ?_⟩
  · rcases List.mem_append.1 hq with hq | hq
    · exact h.b3 q n hq
    · rw [List.mem_singleton] at hq
      cases hq
      exact Nat.le_trans h.gr.size h7
  · obtain ⟨A, c, hv, -, -⟩ := h5.shape
    rw [hd e] at hv
    exact ⟨A, c, hv⟩
  · rcases List.mem_append.1 hq with hq | hq
    · exact .inl ⟨q, n, hq, rfl⟩
    · rw [List.mem_singleton] at hq
      cases hq
      exact .inr h7
theorem blk_turn (f : Nd → Nd) (hf : ∀ n, (f n).blk = n.blk) : ∀ q n, (q, n) ∈ turn p f M → (∃ q' m, (q', m) ∈ M ∧ m.blk = n.blk) ∨ w.heap.size ≤ n.blk := by
  intro q n hq
  obtain ⟨m, hm, ⟨_, rfl⟩ | ⟨_, rfl⟩⟩ := mem_turn hq
  · exact .inl ⟨q, m, hm, (hf m).symm⟩
  · exact .inl ⟨q, n, hm, rfl⟩
theorem mkdirC_zero {who : ByteArray} {m : Int} (hc : mkdirC M who p m = 0) : (comeR M who p).2 = 0 ∧ M.lookup p = none ∧ addC M who p = 0 := by
  have hce : (comeR M who p).2 = 0 := Classical.byContradiction fun h => by unfold mkdirC at hc; rw [if_pos h] at hc; exact h hc
  unfold mkdirC at hc
  rw [hce, if_neg (by decide)] at hc
  by_cases h1 : ¬ (0 ≤ m ∧ m ≤ 63)
  · rw [if_pos h1] at hc; cases hc
  · rw [if_neg h1] at hc
    cases hl : M.lookup p with
    | none => rw [hl] at hc; exact ⟨hce, rfl, hc⟩
    | some n => rw [hl] at hc; cases hc
theorem p_mkdir (h : TG w0 w tb mb M) (hS : SndM M) (who s : ByteArray) (hw : who.size ≤ 100) (p : List UInt8) (hp : s.data.toList = p) (hs : p.length ≤ 300) (m : Int) :
    Calls Tryz.prog 23 #[.pointer (some ⟨tb, 0, none⟩), .string who, .string s, .int .i64 m] w fun e w' => e = .returned (.int .i64 (mkdirC M who p m)) ∧ PDn w0 w w' tb mb M (mkdirA M who p m) := by
  have ht := hS.top'
  by_cases hc : mkdirC M who p m = 0
  · have hA : mkdirA M who p m = .put p true who m.toNat [] := by unfold mkdirA; rw [if_pos hc]
    obtain ⟨h1, h2, h3⟩ := mkdirC_zero hc
    refine (mkdir_ok w tb mb M h.ts ht who s (by omega) p hp (by omega) m hc).mono (fun e w' hh => ⟨by rw [hc]; exact hh.1, ?_⟩)
    rw [hA]
    exact PDn.put h hS hh.2 h1 h2 (add_lt h1 ht h2 h3) hs (by omega) (fun _ => rfl)
  · have hA : mkdirA M who p m = .stay := by unfold mkdirA; rw [if_neg hc]
    refine (mkdir_no w tb mb M h.ts ht (by have := hS.len; omega) who s p hp (by omega) m hc).mono (fun e w' hh => ⟨hh.1, ?_⟩)
    rw [hA]
    exact PDn.stay h hS hh.2
theorem p_write (h : TG w0 w tb mb M) (hS : SndM M) (who s : ByteArray) (hw : who.size ≤ 100) (p : List UInt8) (hp : s.data.toList = p) (hs : p.length ≤ 300) (A : Option Addr) (l : List UInt8) (k cap : Nat) (hk : l.length = k) (hr : RB w w.heap.size A l cap) (m : Int) :
    Calls Tryz.prog 25 #[.pointer (some ⟨tb, 0, none⟩), .string who, .string s, .slice A k cap, .int .i64 m] w fun e w' => e = .returned (.int .i64 (writeC M who p k m)) ∧ PDn w0 w w' tb mb M (writeA M who p l m) := by
  have ht := hS.top'
  by_cases hc : writeC M who p k m = 0
  · obtain ⟨h1, hm, hk1⟩ := writeC_zero hc
    cases hl : M.lookup p with
    | none =>
      have hA : writeA M who p l m = .put p false who m.toNat l := by unfold writeA; rw [hk, if_pos hc, hl]
      have h3 : addC M who p = 0 := by
        have := hc
        unfold writeC at this
        rw [h1, if_neg (by decide), if_neg (by simpa using hm), if_neg (by omega), hl] at this
        exact this
      refine (write_put w tb mb M h.ts ht who s (by omega) p hp (by omega) A l k cap hk hr m hc hl).mono (fun e w' hh => ⟨by rw [hc]; exact hh.1, ?_⟩)
      rw [hA]
      exact PDn.put h hS hh.2 h1 hl (add_lt h1 ht hl h3) hs (by omega) (fun e => by cases e)
    | some n =>
      have hA : writeA M who p l m = .data p l := by unfold writeA; rw [hk, if_pos hc, hl]
      have hdir : n.dir = false := by
        have := hc
        unfold writeC at this
        rw [h1, if_neg (by decide), if_neg (by simpa using hm), if_neg (by omega), hl] at this
        cases hd : n.dir with
        | false => rfl
        | true => simp only at this; rw [if_pos hd] at this; cases this
      refine (write_set w tb mb M h.ts who s p hp (by omega) A l k cap hk hr m hc n hl).mono (fun e w' hh => ⟨by rw [hc]; exact hh.1, ?_⟩)
      rw [hA]
      obtain ⟨v, h1, h2, h3⟩ := hh.2
      exact ⟨turn p (fun x => { x with data := v }) M, ⟨h2, none_of h.gr h3 (h.b3 _ _ (lookup_in hl)), h.b1, h.b2, b3_turn h.b3 _ (fun _ => rfl)⟩, hS.data h.ts.tr.map.1.1 v hl hdir, ⟨v, rfl, h1⟩, .inr (.inr ⟨p, n, lookup_in hl, h3⟩), blk_turn _ (fun _ => rfl)⟩
  · have hA : writeA M who p l m = .stay := by unfold writeA; rw [hk, if_neg hc]
    refine (write_no w tb mb M h.ts ht (by have := hS.len; omega) who s p hp (by omega) A k cap m hc).mono (fun e w' hh => ⟨hh.1, ?_⟩)
    rw [hA]
    exact PDn.stay h hS hh.2
theorem p_remove (h : TG w0 w tb mb M) (hS : SndM M) (who s : ByteArray) (p : List UInt8) (hp : s.data.toList = p) (hs : p.length ≤ 300) :
    Calls Tryz.prog 17 #[.pointer (some ⟨tb, 0, none⟩), .string who, .string s] w fun e w' => e = .returned (.int .i64 (removeD M who p)) ∧ PDn w0 w w' tb mb M (removeA M who p) := by
  by_cases hc : removeC M who p ≠ 0
  · have hD : removeD M who p = removeC M who p := by unfold removeD; rw [if_pos hc]
    have hA : removeA M who p = .stay := by unfold removeA; rw [hD, if_neg hc]
    rw [hD, hA]
    exact (remove_no w tb mb M h.ts who s p hp (by omega) hc).mono (fun e w' hh => ⟨hh.1, PDn.stay h hS hh.2⟩)
  · have hc0 : removeC M who p = 0 := Classical.byContradiction hc
    by_cases hk : kidsM M p ≠ []
    · have hD : removeD M who p = 115 := by unfold removeD; rw [if_neg hc, if_pos hk]
      have hA : removeA M who p = .stay := by unfold removeA; rw [hD, if_neg (by decide)]
      rw [hD, hA]
      exact (remove_full w tb mb M h.ts (by have := hS.len; omega) hS.slashed who s p hp (by omega) hc0 hk).mono (fun e w' hh => ⟨hh.1, PDn.stay h hS hh.2⟩)
    · have hk0 : kidsM M p = [] := Classical.byContradiction hk
      have hD : removeD M who p = 0 := by unfold removeD; rw [if_neg hc, if_neg hk]
      have hA : removeA M who p = .del p := by unfold removeA; rw [hD, if_pos rfl]
      rw [hD, hA]
      have hne : p ≠ [47] := fun e => by
        unfold removeC at hc0
        by_cases h1 : (comeR M who p).2 ≠ 0
        · rw [if_pos h1] at hc0; exact h1 hc0
        · rw [if_neg h1, if_pos e] at hc0; cases hc0
      refine (remove_ok w tb mb M h.ts who s p hp (by omega) hc0 (noKid_of hS.slashed hk0)).mono (fun e w' hh => ⟨hh.1, ?_⟩)
      exact ⟨withoutM M p, ⟨hh.2.1, none_of h.gr hh.2.2 h.b2, h.b1, h.b2, fun q n hq => h.b3 q n (mem_without hq).1⟩, hS.del hk0 hne, rfl, .inr (.inl hh.2.2), fun q n hq => .inl ⟨q, n, (mem_without hq).1, rfl⟩⟩
theorem p_chmod (h : TG w0 w tb mb M) (hS : SndM M) (who s : ByteArray) (p : List UInt8) (hp : s.data.toList = p) (hs : p.length ≤ 300) (m : Int) :
    Calls Tryz.prog 19 #[.pointer (some ⟨tb, 0, none⟩), .string who, .string s, .int .i64 m] w fun e w' => e = .returned (.int .i64 (chmodR M who p m).1) ∧ PDn w0 w w' tb mb M (chmodA M who p m) := by
  refine (chmod_any w tb mb M h.ts.tr who s p hp (by omega) m).mono (fun e w' hh => ?_)
  obtain ⟨he, w1, hb, rfl⟩ := hh
  refine ⟨he, ?_⟩
  have key : (∃ c, c ≠ 0 ∧ chmodR M who p m = (c, none)) ∨ (∃ n, (0 ≤ m ∧ m ≤ 63) ∧ M.lookup p = some n ∧ chmodR M who p m = (0, some n)) := by
    unfold chmodR
    by_cases h1 : (comeR M who p).2 ≠ 0
    · rw [if_pos h1]; exact .inl ⟨_, h1, rfl⟩
    · rw [if_neg h1]
      by_cases h2 : ¬ (0 ≤ m ∧ m ≤ 63)
      · rw [if_pos h2]; exact .inl ⟨1, by decide, rfl⟩
      · rw [if_neg h2]
        cases hl : M.lookup p with
        | none => exact .inl ⟨110, by decide, rfl⟩
        | some n =>
          simp only
          by_cases h3 : who ≠ rootB ∧ who ≠ n.owner
          · rw [if_pos h3]; exact .inl ⟨114, by decide, rfl⟩
          · rw [if_neg h3]; exact .inr ⟨n, by simpa using h2, rfl, rfl⟩
  rcases key with ⟨c, h0, hR⟩ | ⟨n, hm, hl, hR⟩
  · have hA : chmodA M who p m = .stay := by unfold chmodA; rw [hR, if_neg h0]
    rw [hA, hR]
    exact PDn.stay h hS hb
  · have hA : chmodA M who p m = .mode p m.toNat := by unfold chmodA; rw [hR, if_pos rfl]
    rw [hA, hR]
    have h1 := h.below hb
    have hin := lookup_in hl
    obtain ⟨x, rfl⟩ : ∃ x : Nat, m = (x : Int) := ⟨m.toNat, by omega⟩
    have hg : w1.grownBy (turned w1 x (some n)) (some n.blk) := grownC_set _ _ _ _
    exact ⟨turn p (fun y => { y with mode := x }) M, ⟨h1.ts.mode hin x (by omega), none_of h1.gr hg (h.b3 _ _ hin), h.b1, h.b2, b3_turn h.b3 _ (fun _ => rfl)⟩, hS.turn2 _ (fun _ => rfl) (fun _ => rfl) (fun _ e => e), rfl, .inr (.inr ⟨p, n, hin, grown_trans' (grown_some (none_of_below hb (Nat.le_refl _)) _) hg⟩), blk_turn _ (fun _ => rfl)⟩
theorem p_give (h : TG w0 w tb mb M) (hS : SndM M) (who s o : ByteArray) (ho : o.size ≤ 100) (p : List UInt8) (hp : s.data.toList = p) (hs : p.length ≤ 300) :
    Calls Tryz.prog 21 #[.pointer (some ⟨tb, 0, none⟩), .string who, .string s, .string o] w fun e w' => e = .returned (.int .i64 (giveR M who p).1) ∧ PDn w0 w w' tb mb M (giveA M who p o) := by
  refine (give_any w tb mb M h.ts.tr who s o p hp (by omega) (by omega)).mono (fun e w' hh => ?_)
  obtain ⟨he, w1, hb, rfl⟩ := hh
  refine ⟨he, ?_⟩
  have key : (∃ c, c ≠ 0 ∧ giveR M who p = (c, none)) ∨ (∃ n, (p, n) ∈ M ∧ giveR M who p = (0, some n)) := by
    unfold giveR
    rcases findR_cases M who p with ⟨c, h0, hf⟩ | ⟨n, hin, hf⟩
    · rw [hf]; exact .inl ⟨c, h0, rfl⟩
    · rw [hf]
      simp only
      by_cases h3 : who ≠ rootB
      · rw [if_pos h3]; exact .inl ⟨114, by decide, rfl⟩
      · rw [if_neg h3]; exact .inr ⟨n, hin, rfl⟩
  rcases key with ⟨c, h0, hR⟩ | ⟨n, hin, hR⟩
  · have hA : giveA M who p o = .stay := by unfold giveA; rw [hR, if_neg h0]
    rw [hA, hR]
    exact PDn.stay h hS hb
  · have hA : giveA M who p o = .owner p o := by unfold giveA; rw [hR, if_pos rfl]
    rw [hA, hR]
    have h1 := h.below hb
    have hg : w1.grownBy (given w1 o (some n)) (some n.blk) := grownC_set _ _ _ _
    exact ⟨turn p (fun y => { y with owner := o }) M, ⟨h1.ts.owner hin o, none_of h1.gr hg (h.b3 _ _ hin), h.b1, h.b2, b3_turn h.b3 _ (fun _ => rfl)⟩, hS.turn2 _ (fun _ => rfl) (fun _ => rfl) (fun _ _ => by show o.size ≤ 1000000; omega), rfl, .inr (.inr ⟨p, n, hin, grown_trans' (grown_some (none_of_below hb (Nat.le_refl _)) _) hg⟩), blk_turn _ (fun _ => rfl)⟩
/-- The two Trees, alike, in memory that was made since w0. -/
structure PR (w0 w : World) (tb mb : Nat) (M : List (List UInt8 × Nd)) (rb : Nat) (v : Value) (N : List (List UInt8 × Nd)) : Prop where
  tg : TG w0 w tb mb M
  snd : SndM M
  rt : RT w rb v N
  tw : Twin w M N
  sep : ∀ p n, (p, n) ∈ M → v.ownBlock ≠ some n.blk
  r0 : w0.heap.size ≤ rb
  v0 : ∀ g, v.ownBlock = some g → w0.heap.size ≤ g
/-- .. the program's having done something already. -/
structure MidR (B : Nat) (w0 w : World) (tb mb : Nat) (M M' : List (List UInt8 × Nd)) (rb : Nat) (v : Value) (N : List (List UInt8 × Nd)) (A : Act8) : Prop where
  tg : TG w0 w tb mb M'
  snd : SndM M'
  did : DoneP B w M M' A
  rt : RT w rb v N
  tw : Twin w M N
  nd : (keysM M).Nodup
  sep : ∀ p n, (p, n) ∈ M' → v.ownBlock ≠ some n.blk
  r0 : w0.heap.size ≤ rb
  v0 : ∀ g, v.ownBlock = some g → w0.heap.size ≤ g
theorem rt_ne (hR : RT w rb v N) (h : TS w tb mb M) : rb ≠ tb ∧ rb ≠ mb ∧ (∀ p n, (p, n) ∈ M → rb ≠ n.blk) ∧ v.ownBlock ≠ some tb ∧ v.ownBlock ≠ some mb := by
  obtain ⟨es, cl, hm⟩ := h.tr.map.block
  exact ⟨cb_neT hR.top h.tr.top (by decide), hR.top.ne_map hm, fun p n hn => cb_neT hR.top (h.tr.nodes p n hn).1 (by decide), hR.row.ne_cells h.tr.top (by decide), hR.row.ne_map hm⟩
theorem PR.prog {A : Act8} (h : PR w0 w tb mb M rb v N) (hP : PDn w0 w w' tb mb M A) : ∃ M', MidR w.heap.size w0 w' tb mb M M' rb v N A ∧ Keep w w' := by
  obtain ⟨M', h1, h2, h3, h4, h5⟩ := hP
  obtain ⟨n1, n2, n3, n4, n5⟩ := rt_ne h.rt h.tg.ts
  obtain ⟨es, cl, hmb⟩ := h.tg.ts.tr.map.block
  have hvl : ∀ g, v.ownBlock = some g → g < w.heap.size := fun g hg => (h.rt.row.lt g hg).2
  have hRK : RT w' rb v N ∧ Keep w w' := by
    rcases h4 with h4 | h4 | ⟨p, n, hin, h4⟩
    · exact ⟨h.rt.far h4 (by simp) (by simp) (by simp), Keep.below (below_of_none h4)⟩
    · exact ⟨h.rt.far h4 (fun e => n2 (Option.some.inj e).symm) (fun z e => by cases e; exact n5) (fun z e dv l ho => by cases e; exact ho.ne_map hmb), fun dv l ho => World.ownsRow.kept ho h4 (.inr (ho.ne_map hmb))⟩
    · exact ⟨h.rt.far h4 (fun e => n3 p n hin (Option.some.inj e).symm) (fun z e => by cases e; exact h.sep p n hin) (fun z e dv l ho => by cases e; exact ho.ne_cells (h.tg.ts.tr.nodes p n hin).1 (by decide)), fun dv l ho => World.ownsRow.kept ho h4 (.inr (ho.ne_cells (h.tg.ts.tr.nodes p n hin).1 (by decide)))⟩
  refine ⟨M', ⟨h1, h2, h3, hRK.1, h.tw.keep hRK.2, h.tg.ts.tr.map.1.1, fun p n hn e => ?_, h.r0, h.v0⟩, hRK.2⟩
  rcases h5 p n hn with ⟨q, m, hm, he⟩ | hb
  · rw [← he] at e; exact h.sep q m hm e
  · have := hvl _ e; omega
theorem own_base {w w' : World} {B : Nat} {e : TypeId} {v : Value} {l : List UInt8} (h : OwnB w' 0 e v l) (h2 : OwnB w B e v l) : OwnB w' B e v l := ⟨h.1, h.2.imp id fun ⟨g, cap, cur, hv, hb, r⟩ => ⟨g, cap, cur, hv, (h2.lt g (by rw [hv]; rfl)).1, r⟩⟩
theorem Keep.chr (h : RT w rb v N) (hC : ChR w w' rb v) : Keep w w' := by
  rcases hC with hC | hC | ⟨g, hg, hC⟩
  · exact Keep.below (below_of_none hC)
  · exact fun dv l ho => World.ownsRow.kept ho hC (.inr (ho.ne_cells h.top (by decide)))
  · refine fun dv l ho => World.ownsRow.kept ho hC ?_
    rcases own_ne_row ho h.row (by decide) with e | e
    · exact .inl e
    · exact .inr (by rw [← hg]; exact e)
theorem MidR.done {M' : List (List UInt8 × Nd)} {A : Act8} {B B' : Nat} (h : MidR B w0 w tb mb M M' rb v N A) (hD : RDone B' w w' rb v N A) : ∃ v' N', PR w0 w' tb mb M' rb v' N' ∧ DoneR B' w' N N' A ∧ ChR w w' rb v := by
  obtain ⟨v', N', h1, h2, h3, h4⟩ := hD
  have hK := Keep.chr h.rt h3
  obtain ⟨n1, n2, n3, n4, n5⟩ := rt_ne h.rt h.tg.ts
  have hlt := h.tg.ts.tr.lts
  have hTS : TS w' tb mb M' ∧ w0.grownBy w' none := by
    rcases h3 with h3 | h3 | ⟨g, hg, h3⟩
    · exact ⟨h.tg.ts.far h3 (by simp) (by simp) (by simp) (by simp), grown_trans' h.tg.gr h3⟩
    · exact ⟨h.tg.ts.far h3 (fun e => n1 (Option.some.inj e)) (fun e => n2 (Option.some.inj e)) (fun p n hn e => n3 p n hn (Option.some.inj e)) (fun z e dv l ho => by cases e; exact ho.ne_cells h.rt.top (by decide)), none_new h.tg.gr h3 h.r0⟩
    · refine ⟨h.tg.ts.far h3 (fun e => n4 (by rw [hg]; exact e)) (fun e => n5 (by rw [hg]; exact e)) (fun p n hn e => h.sep p n hn (by rw [hg]; exact e)) (fun z e dv l ho => ?_), none_new h.tg.gr h3 (h.v0 g hg)⟩
      cases e
      rcases own_ne_row ho h.rt.row (by decide) with e | e
      · rw [e]; simp
      · rw [← hg]; exact e
  have hKB : ∀ dv l, OwnB w B 5 dv l → OwnB w' B 5 dv l := fun dv l ho => own_base (hK _ _ (OwnB.base_ ho (Nat.zero_le _))) ho
  have hDP : DoneP B w' M M' A := by
    have hd := h.did
    cases A with
    | stay => exact hd
    | put p dir owner mode l => obtain ⟨a, b, dv, c, d⟩ := hd; exact ⟨a, b, dv, c, hKB _ _ d⟩
    | data p l => obtain ⟨dv, c, d⟩ := hd; exact ⟨dv, c, hKB _ _ d⟩
    | mode p m => exact hd
    | owner p o => exact hd
    | del p => exact hd
  refine ⟨v', N', ⟨⟨hTS.1, hTS.2, h.tg.b1, h.tg.b2, h.tg.b3⟩, h.snd, h1, (h.tw.keep hK).step h.rt.nodup h.nd hDP h2, fun p n hn e => ?_, h.r0, fun g hg => ?_⟩, h2, h3⟩
  · rcases h4 with h4 | h4
    · rw [h4] at e; exact h.sep p n hn e
    · have a := h4 _ e
      have b := hlt.2.2 p n hn
      omega
  · rcases h4 with h4 | h4
    · exact h.v0 g (by rw [← h4]; exact hg)
    · exact Nat.le_trans h.tg.gr.size (h4 g hg)
theorem PR.grown (h : PR w0 w tb mb M rb v N) (hg : w.grownBy w' none) : PR w0 w' tb mb M rb v N :=
  ⟨h.tg.below (below_of_none hg), h.snd, h.rt.far hg (by simp) (by simp) (by simp), h.tw.keep (Keep.below (below_of_none hg)), h.sep, h.r0, h.v0⟩
/-! The two answers are one. -/
theorem Twin.mkdirA (h : Twin w M N) (who : ByteArray) (p : List UInt8) (m : Int) : mkdirA M who p m = mkdirA N who p m := by unfold Go.Proofs.YtjonnamemmleiaaGreatDoor.mkdirA; rw [h.mkdirC]
theorem Twin.writeA (h : Twin w M N) (who : ByteArray) (p l : List UInt8) (m : Int) : writeA M who p l m = writeA N who p l m := by
  unfold Go.Proofs.YtjonnamemmleiaaGreatDoor.writeA
  rw [h.writeC]
  have ha := h.at_ p
  cases hm : M.lookup p with
  | none => rw [hm] at ha; rw [ha.none_]
  | some a =>
    rw [hm] at ha
    obtain ⟨b, hb, -⟩ := ha.some_
    rw [hb]
theorem Twin.removeC (h : Twin w M N) (who : ByteArray) (p : List UInt8) : removeC M who p = removeC N who p := by
  unfold Go.Proofs.YtjonnamemmleiaaGreatDoor.removeC
  rw [h.come]
  have ha := h.at_ p
  have hb := h.at_ (parOf p)
  cases hm : M.lookup p with
  | none => rw [hm] at ha; rw [ha.none_]
  | some a =>
    rw [hm] at ha
    obtain ⟨a', ha', -⟩ := ha.some_
    rw [ha']
    cases hq : M.lookup (parOf p) with
    | none => rw [hq] at hb; rw [hb.none_]
    | some b =>
      rw [hq] at hb
      obtain ⟨b', hb', h1, h2, h3, -⟩ := hb.some_
      rw [hb']
      simp only
      rw [h2, h3]
theorem Twin.removeD (h : Twin w M N) (hm : (keysM M).Nodup) (hn : (keysM N).Nodup) (who : ByteArray) (p : List UInt8) : removeD M who p = removeD N who p := by
  unfold Go.Proofs.YtjonnamemmleiaaGreatDoor.removeD
  rw [h.removeC]
  have hk := h.kids hm hn p
  by_cases h1 : kidsM M p = []
  · rw [h1] at hk; rw [h1, hk.nil_eq.symm]
  · have h2 : kidsM N p ≠ [] := fun e => h1 (by rw [e] at hk; exact hk.eq_nil)
    rw [if_pos h1, if_pos h2]
theorem Twin.removeA (h : Twin w M N) (hm : (keysM M).Nodup) (hn : (keysM N).Nodup) (who : ByteArray) (p : List UInt8) : removeA M who p = removeA N who p := by unfold Go.Proofs.YtjonnamemmleiaaGreatDoor.removeA; rw [h.removeD hm hn]
theorem Twin.chmodR (h : Twin w M N) (who : ByteArray) (p : List UInt8) (m : Int) : (chmodR M who p m).1 = (chmodR N who p m).1 := by
  unfold Go.Proofs.YtjonnamemmleiaaGreatDoor.chmodR
  rw [h.come]
  have ha := h.at_ p
  cases hm : M.lookup p with
  | none => rw [hm] at ha; rw [ha.none_]
  | some a =>
    rw [hm] at ha
    obtain ⟨b, hb, h1, h2, h3, -⟩ := ha.some_
    rw [hb]
    simp only
    rw [h2]
    split
    · rfl
    · split
      · rfl
      · split <;> rfl
theorem Twin.chmodA (h : Twin w M N) (who : ByteArray) (p : List UInt8) (m : Int) : chmodA M who p m = chmodA N who p m := by unfold Go.Proofs.YtjonnamemmleiaaGreatDoor.chmodA; rw [h.chmodR]
theorem Twin.giveR (h : Twin w M N) (who : ByteArray) (p : List UInt8) : (giveR M who p).1 = (giveR N who p).1 := by
  unfold Go.Proofs.YtjonnamemmleiaaGreatDoor.giveR
  obtain ⟨h1, h2⟩ := h.find who p
  cases hm : (findR M who p).1 with
  | none => rw [hm] at h2; rw [h2.none_]; exact h1
  | some a =>
    rw [hm] at h2
    obtain ⟨b, hb, -⟩ := h2.some_
    rw [hb]
    simp only
    split <;> rfl
theorem Twin.giveA (h : Twin w M N) (who : ByteArray) (p : List UInt8) (o : ByteArray) : giveA M who p o = giveA N who p o := by unfold Go.Proofs.YtjonnamemmleiaaGreatDoor.giveA; rw [h.giveR]
theorem Twin.listR (h : Twin w M N) (who : ByteArray) (p : List UInt8) : listR M who p = listR N who p := by
  unfold Go.Proofs.YtjonnamemmleiaaGreatDoor.listR
  obtain ⟨h1, h2⟩ := h.find who p
  cases hm : (findR M who p).1 with
  | none => rw [hm] at h2; rw [h2.none_]; exact h1
  | some a =>
    rw [hm] at h2
    obtain ⟨b, hb, c1, c2, c3, -⟩ := h2.some_
    rw [hb]
    simp only
    rw [c1, c2, c3]
theorem Twin.readR (h : Twin w M N) (who : ByteArray) (p : List UInt8) : (readR M who p).2 = (readR N who p).2 ∧ Alike w (readR M who p).1 (readR N who p).1 := by
  unfold Go.Proofs.YtjonnamemmleiaaGreatDoor.readR
  obtain ⟨h1, h2⟩ := h.find who p
  cases hm : (findR M who p).1 with
  | none => rw [hm] at h2; rw [h2.none_]; exact ⟨h1, trivial⟩
  | some a =>
    rw [hm] at h2
    obtain ⟨b, hb, c1, c2, c3, c4⟩ := h2.some_
    rw [hb]
    simp only
    rw [c1, c2, c3]
    split
    · exact ⟨rfl, trivial⟩
    · split
      · exact ⟨rfl, trivial⟩
      · exact ⟨rfl, c1, c2, c3, c4⟩
end
end Go.Proofs.YtjonnamemmleiaaGreatDoor
