/- Both Trees after a call of each; a row of bytes beside them is spoilt. -/
import Derived.Test.YtjonnamemmleiaaGreatDoorUap
namespace Go.Proofs.YtjonnamemmleiaaGreatDoor
open Go.RowKit Go.Maps Go.WideMaps

/-- No node's data lie in this block. -/
def NoB (g : Nat) (M : List (List UInt8 × Nd)) : Prop := ∀ q n, (q, n) ∈ M → n.data.ownBlock ≠ some g
section
variable {w0 w w1 w' : World} {tb mb rb B g : Nat} {v : Value} {M M' N N' : List (List UInt8 × Nd)} {p : List UInt8} {n : Nd} {A : Act8}
theorem nob_turn {f : Nd → Nd} (h : NoB g M) (hf : ∀ n, n.data.ownBlock ≠ some g → (f n).data.ownBlock ≠ some g) : NoB g (turn p f M) := by
  intro q n hq
  obtain ⟨m, hm, ⟨_, rfl⟩ | ⟨_, rfl⟩⟩ := mem_turn hq
  · exact hf m (h q m hm)
  · exact h q n hm
theorem DoneP.nob (h : DoneP B w' M M' A) (hg : g < B) (hM : NoB g M) : NoB g M' := by
  cases A with
  | stay => cases h; exact hM
  | put p dir owner mode l =>
    obtain ⟨-, b, dv, rfl, ho⟩ := h
    intro q n hq e
    rcases List.mem_append.1 hq with hq | hq
    · exact hM q n hq e
    · rw [List.mem_singleton] at hq
      cases hq
      have := (ho.lt g e).1
      omega
  | data p l =>
    obtain ⟨dv, rfl, ho⟩ := h
    exact nob_turn hM fun n _ e => by have := (ho.lt g e).1; omega
  | mode p m => cases h; exact nob_turn hM fun n h => h
  | owner p o => cases h; exact nob_turn hM fun n h => h
  | del p => cases h; exact fun q n hq => hM q n (mem_without hq).1
theorem DoneR.nob (h : DoneR B w' N N' A) (hg : g < B) (hN : NoB g N) : NoB g N' := by
  cases A with
  | stay => cases h; exact hN
  | put p dir owner mode l =>
    obtain ⟨-, dv, hi, ho⟩ := h
    intro q n hq e
    rcases List.mem_append.1 (hi.perm.mem_iff.1 hq) with hq | hq
    · exact hN q n hq e
    · rw [List.mem_singleton] at hq
      cases hq
      have := (ho.lt g e).1
      omega
  | data p l =>
    obtain ⟨dv, rfl, ho⟩ := h
    exact nob_turn hN fun n _ e => by have := (ho.lt g e).1; omega
  | mode p m => cases h; exact nob_turn hN fun n h => h
  | owner p o => cases h; exact nob_turn hN fun n h => h
  | del p => cases h; exact fun q n hq => hN q n (mem_without hq).1
theorem PR.fresh (h : PR w0 w tb mb M rb v N) (hg : w.heap.size ≤ g) : NoB g M ∧ NoB g N := by
  refine ⟨fun q n hq e => ?_, fun q n hq e => ?_⟩
  · obtain ⟨l, ho, -⟩ := h.tg.ts.row q n hq
    have := (ho.lt g e).2
    omega
  · obtain ⟨l, ho, -⟩ := h.rt.dat _ hq
    have := (ho.lt g e).2
    omega
/-- What both calls left, and what stayed. -/
structure Nxt (w0 w w' : World) (tb mb rb : Nat) (M N M' : List (List UInt8 × Nd)) (v' : Value) (N' : List (List UInt8 × Nd)) : Prop where
  pr : PR w0 w' tb mb M' rb v' N'
  nob : ∀ g, g < w.heap.size → NoB g M → NoB g N → NoB g M' ∧ NoB g N'
  keep : Keep w w'
  cb : ∀ g t cs, CB w g t cs → t ≠ 63 → t ≠ 46 → CB w' g t cs
def NxtE (w0 w w' : World) (tb mb rb : Nat) (M N : List (List UInt8 × Nd)) : Prop := ∃ M' v' N', Nxt w0 w w' tb mb rb M N M' v' N'
theorem PDn.cb (ht : TS w tb mb M) (d : PDn w0 w w1 tb mb M A) {t : TypeId} {cs : List Value} (hc : CB w g t cs) (h1 : t ≠ 63) : CB w1 g t cs := by
  obtain ⟨M', -, -, -, h4, -⟩ := d
  obtain ⟨es, cl, hm⟩ := ht.tr.map.block
  rcases h4 with h4 | h4 | ⟨p, n, hin, h4⟩
  · exact hc.kept h4
  · exact hc.grown h4 (hc.ne_map hm)
  · exact hc.grown h4 (cb_neT hc (ht.tr.nodes p n hin).1 h1)
theorem ChR.cb (hR : RT w rb v N) (hC : ChR w w' rb v) {t : TypeId} {cs : List Value} (hc : CB w g t cs) (h1 : t ≠ 63) (h2 : t ≠ 46) : CB w' g t cs := by
  rcases hC with hC | hC | ⟨z, hz, hC⟩
  · exact hc.kept hC
  · exact hc.grown hC (cb_neT hc hR.top h2)
  · refine hc.grown hC (fun e => ?_)
    subst e
    exact hR.row.ne_cells hc (fun e => h1 e.symm) hz
theorem nxt_of (h : PR w0 w tb mb M rb v N) (d : PDn w0 w w1 tb mb M A) : RT w1 rb v N ∧ w.heap.size ≤ w1.heap.size ∧ (∀ w', RDone w1.heap.size w1 w' rb v N A → NxtE w0 w w' tb mb rb M N) := by
  obtain ⟨M', mid, hk⟩ := h.prog d
  have hsz : w.heap.size ≤ w1.heap.size := by
    obtain ⟨_, -, -, -, h4, -⟩ := d
    rcases h4 with h4 | h4 | ⟨_, _, _, h4⟩ <;> exact h4.size
  refine ⟨mid.rt, hsz, fun w' d2 => ?_⟩
  obtain ⟨v', N', hp, hd, hc⟩ := mid.done d2
  exact ⟨M', v', N', hp, fun g hg hM hN => ⟨mid.did.nob hg hM, hd.nob (Nat.lt_of_lt_of_le hg hsz) hN⟩, hk.trans (Keep.chr mid.rt hc), fun g t cs hcb h1 h2 => hc.cb mid.rt (d.cb h.tg.ts hcb h1) h1 h2⟩
/-- The document's call behind the program's. -/
theorem q_remove (h : PR w0 w tb mb M rb v N) (who s : ByteArray) (hp : s.data.toList = p) (hs : p.length ≤ 300) (d : PDn w0 w w1 tb mb M (removeA M who p)) :
    Calls Tryz.prog 18 #[.pointer (some ⟨rb, 0, none⟩), .string who, .string s] w1 fun e w' => e = .returned (.int .i64 (removeD M who p)) ∧ NxtE w0 w w' tb mb rb M N := by
  obtain ⟨h1, -, h2⟩ := nxt_of h d
  refine (rremove_any w1 rb v N h1 h.oks who s p hp hs).mono (fun e w' hh => ?_)
  rw [h.tw.removeD h.tg.ts.tr.map.1.1 h.rt.nodup]
  refine ⟨hh.1, h2 w' ?_⟩
  rw [h.tw.removeA h.tg.ts.tr.map.1.1 h.rt.nodup]
  exact hh.2
theorem q_mkdir (h : PR w0 w tb mb M rb v N) (who s : ByteArray) (hp : s.data.toList = p) (hs : p.length ≤ 300) (m : Int) (d : PDn w0 w w1 tb mb M (mkdirA M who p m)) :
    Calls Tryz.prog 24 #[.pointer (some ⟨rb, 0, none⟩), .string who, .string s, .int .i64 m] w1 fun e w' => e = .returned (.int .i64 (mkdirC M who p m)) ∧ NxtE w0 w w' tb mb rb M N := by
  obtain ⟨h1, -, h2⟩ := nxt_of h d
  have ht : ∃ n, N.lookup [47] = some n := by
    obtain ⟨n, hn⟩ := h.snd.top'
    have := h.tw.at_ [47]
    rw [hn] at this
    obtain ⟨m, hm, -⟩ := this.some_
    exact ⟨m, hm⟩
  refine (rmkdir_any w1 rb v N h1 ht who s p hp (by omega) m).mono (fun e w' hh => ?_)
  rw [h.tw.mkdirC]
  refine ⟨hh.1, h2 w' ?_⟩
  rw [h.tw.mkdirA]
  exact hh.2
theorem q_write (h : PR w0 w tb mb M rb v N) (who s : ByteArray) (hp : s.data.toList = p) (hs : p.length ≤ 300) (V : Option Addr) (l : List UInt8) (k c : Nat) (hk : l.length = k) (hr : RB w1 w1.heap.size V l c) (m : Int) (d : PDn w0 w w1 tb mb M (writeA M who p l m)) :
    Calls Tryz.prog 26 #[.pointer (some ⟨rb, 0, none⟩), .string who, .string s, .slice V k c, .int .i64 m] w1 fun e w' => e = .returned (.int .i64 (writeC M who p k m)) ∧ NxtE w0 w w' tb mb rb M N := by
  obtain ⟨h1, -, h2⟩ := nxt_of h d
  have ht : ∃ n, N.lookup [47] = some n := by
    obtain ⟨n, hn⟩ := h.snd.top'
    have := h.tw.at_ [47]
    rw [hn] at this
    obtain ⟨m, hm, -⟩ := this.some_
    exact ⟨m, hm⟩
  refine (rwrite_any w1 rb v N h1 ht who s p hp (by omega) V l k c hk hr m).mono (fun e w' hh => ?_)
  rw [h.tw.writeC]
  refine ⟨hh.1, h2 w' ?_⟩
  rw [h.tw.writeA]
  exact hh.2
theorem q_chmod (h : PR w0 w tb mb M rb v N) (who s : ByteArray) (hp : s.data.toList = p) (hs : p.length ≤ 300) (m : Int) (d : PDn w0 w w1 tb mb M (chmodA M who p m)) :
    Calls Tryz.prog 20 #[.pointer (some ⟨rb, 0, none⟩), .string who, .string s, .int .i64 m] w1 fun e w' => e = .returned (.int .i64 (chmodR M who p m).1) ∧ NxtE w0 w w' tb mb rb M N := by
  obtain ⟨h1, -, h2⟩ := nxt_of h d
  refine (rchmod_any w1 rb v N h1 who s p hp (by omega) m).mono (fun e w' hh => ?_)
  rw [h.tw.chmodR]
  refine ⟨hh.1, h2 w' ?_⟩
  rw [h.tw.chmodA]
  exact hh.2
theorem q_give (h : PR w0 w tb mb M rb v N) (who s o : ByteArray) (hp : s.data.toList = p) (hs : p.length ≤ 300) (d : PDn w0 w w1 tb mb M (giveA M who p o)) :
    Calls Tryz.prog 22 #[.pointer (some ⟨rb, 0, none⟩), .string who, .string s, .string o] w1 fun e w' => e = .returned (.int .i64 (giveR M who p).1) ∧ NxtE w0 w w' tb mb rb M N := by
  obtain ⟨h1, -, h2⟩ := nxt_of h d
  refine (rgive_any w1 rb v N h1 who s o p hp (by omega)).mono (fun e w' hh => ?_)
  rw [h.tw.giveR]
  refine ⟨hh.1, h2 w' ?_⟩
  rw [h.tw.giveA]
  exact hh.2
/-- A block of bytes that no node has is written. -/
theorem PR.spoil (h : PR w0 w tb mb M rb v N) (hM : NoB g M) (hN : NoB g N) {cs : List Value} (hc : CB w g 5 cs) (hg : w.grownBy w' (some g)) (hb : w0.heap.size ≤ g) : PR w0 w' tb mb M rb v N := by
  obtain ⟨es, cl, hm⟩ := h.tg.ts.tr.map.block
  have htb : CB w tb 96 [.map (some mb)] := h.tg.ts.tr.top
  have kM : ∀ q n l, (q, n) ∈ M → OwnB w 0 5 n.data l → OwnB w' 0 5 n.data l := fun q n l hq ho => World.ownsRow.kept ho hg (.inr (hM q n hq))
  have kN : ∀ q n l, (q, n) ∈ N → OwnB w 0 5 n.data l → OwnB w' 0 5 n.data l := fun q n l hq ho => World.ownsRow.kept ho hg (.inr (hN q n hq))
  refine ⟨⟨⟨⟨htb.grown hg (cb_neT htb hc (by decide)), h.tg.ts.tr.map.kept hg (fun e => hc.ne_map hm (Option.some.inj e).symm), fun p n hn => ⟨(h.tg.ts.tr.nodes p n hn).1.grown hg (cb_neT (h.tg.ts.tr.nodes p n hn).1 hc (by decide)), (h.tg.ts.tr.nodes p n hn).2⟩⟩, h.tg.ts.sep, fun p n hn => ?_, h.tg.ts.rsep⟩, none_new h.tg.gr hg hb, h.tg.b1, h.tg.b2, h.tg.b3⟩, h.snd, ⟨h.rt.top.grown hg (cb_neT h.rt.top hc (by decide)), h.rt.row.row hg (h.rt.row.ne_cells hc (by decide)), fun x hx => ?_, h.rt.mode, h.rt.up, h.rt.len⟩, ⟨fun p => ?_, h.tw.len⟩, h.sep, h.r0, h.v0⟩
  · obtain ⟨l, ho, hl⟩ := h.tg.ts.row p n hn
    exact ⟨l, kM p n l hn ho, hl⟩
  · obtain ⟨l, ho, hl⟩ := h.rt.dat x hx
    exact ⟨l, kN x.1 x.2 l hx ho, hl⟩
  · have ha := h.tw.at_ p
    cases hx : M.lookup p with
    | none => rw [hx] at ha; rw [ha.none_]; trivial
    | some a =>
      rw [hx] at ha
      obtain ⟨b, hb, h1, h2, h3, l, h4, h5⟩ := ha.some_
      rw [hb]
      exact ⟨h1, h2, h3, l, kM p a l (lookup_in hx) h4, kN p b l (lookup_in hb) h5⟩
/-- Both Trees, new. -/
theorem pr_new {b : Nat} (hg0 : w0.grownBy w none) (t1 : TS w1 tb mb [([47], ⟨b, true, rootB, 61, .slice none 0 0⟩)]) (g1 : w.grownBy w1 none) (b1 : w.heap.size ≤ tb) (b2 : w.heap.size ≤ mb) (b3 : w.heap.size ≤ b)
    (r2 : RT w' rb v [([47], ⟨0, true, rootB, 61, .slice none 0 0⟩)]) (g2 : w1.grownBy w' none) (hb : w1.heap.size ≤ rb) (hv : ∀ g, v.ownBlock = some g → w1.heap.size ≤ g) :
    PR w0 w' tb mb [([47], ⟨b, true, rootB, 61, .slice none 0 0⟩)] rb v [([47], ⟨0, true, rootB, 61, .slice none 0 0⟩)] := by
  have z1 := hg0.size
  have z2 := g1.size
  have hbl : b < w1.heap.size := t1.tr.lts.2.2 [47] _ (List.mem_singleton.2 rfl)
  refine ⟨⟨t1.below (below_of_none g2), grown_trans' hg0 (grown_trans' g1 g2), by omega, by omega, fun p n hn => ?_⟩, ⟨⟨_, rfl, rfl⟩, fun p n hp => ?_, fun p n hp hne => ?_, by simp⟩, r2, ⟨fun p => ?_, rfl⟩, fun p n hn e => ?_, by omega, fun g hg => by have := hv g hg; omega⟩
  · rw [List.mem_singleton] at hn; cases hn; show w0.heap.size ≤ b; omega
  · rw [List.mem_singleton] at hp; cases hp; exact ⟨rfl, by simp, show rootB.size ≤ 1000000 by decide, fun _ => ⟨none, 0, rfl⟩⟩
  · rw [List.mem_singleton] at hp; cases hp; exact absurd rfl hne
  · by_cases e : p = [47]
    · subst e
      exact ⟨rfl, rfl, rfl, [], OwnB.nil_ _ _ _, OwnB.nil_ _ _ _⟩
    · have e1 : (p == [47]) = false := beq_eq_false_iff_ne.2 e
      simp only [List.lookup, e1]
      trivial
  · rw [List.mem_singleton] at hn; cases hn
    have := hv _ e
    simp only at this
    omega
/-- The program's listing of its nodes is the document's row. -/
theorem nodes_alike (h : PR w0 w tb mb M rb v N) {ks : List (List UInt8)} {cs : List (List Value)} {base : Nat} (hL : ListedM M ks) (hN : NodesAt w w' base M ks cs) (hg : w.grownBy w' none) : Alike2 w' cs (N.map ndC) ∧ cs.length = N.length := by
  have hks : ks = keysM N := sorted_one (hL.1.trans (h.tw.perm h.tg.ts.tr.map.1.1 h.rt.nodup)) hL.2 (by
    have hu := h.rt.up
    unfold SortN at hu
    exact hu.imp (fun q => List.le_of_lt q))
  have hkl : ks.length = N.length := by rw [hks]; unfold keysM; rw [List.length_map]
  refine ⟨fun i c d hc hd => ?_, by rw [hN.1, hkl]⟩
  rw [List.getElem?_map] at hd
  obtain ⟨x, hx, rfl⟩ := Option.map_eq_some_iff.1 hd
  have hkx : ks[i]? = some x.1 := by rw [hks]; unfold keysM; rw [List.getElem?_map, hx]; rfl
  obtain ⟨n, l, dv, h1, h2, h3, rfl⟩ := hN.2 i x.1 c hkx hc
  have hl := nodup_lookup h.rt.nodup (show (x.1, x.2) ∈ N from List.mem_of_getElem? hx)
  have ha := h.tw.at_ x.1
  rw [h1, hl] at ha
  obtain ⟨a1, a2, a3, l', a4, a5⟩ := ha
  have hll : l = l' := h2.uniq a4
  subst hll
  refine ⟨⟨x.1.toArray⟩, n.dir, n.owner, n.mode, dv, x.2.data, l, rfl, ?_, OwnB.base_ h3 (Nat.zero_le _), a5.below (below_of_none hg)⟩
  unfold ndC
  rw [a1, a2, a3]
end
end Go.Proofs.YtjonnamemmleiaaGreatDoor
