/- A Tree whose nodes lie apart; a node's mode turned. -/
import Derived.Test.YtlkchajkhplapaaGreatDoorTrl
namespace Go.Proofs.YtlkchajkhplapaaGreatDoor
open Go.RowKit Go.Maps Go.WideMaps

/-- A Tree, its nodes and their data apart. -/
structure TS (w : World) (tb mb : Nat) (M : List (List UInt8 × Nd)) : Prop where
  tr : TR w tb mb M
  sep : ∀ p n p' n', (p, n) ∈ M → (p', n') ∈ M → n.blk = n'.blk → p = p'
  row : ∀ p n, (p, n) ∈ M → ∃ l : List UInt8, OwnB w 0 5 n.data l ∧ l.length ≤ 1000000
  rsep : ∀ p n p' n' k, (p, n) ∈ M → (p', n') ∈ M → n.data.ownBlock = some k → n'.data.ownBlock = some k → p = p'
def turn (p : List UInt8) (f : Nd → Nd) (M : List (List UInt8 × Nd)) : List (List UInt8 × Nd) := M.map fun x => if x.1 = p then (x.1, f x.2) else x
theorem keys_turn (p : List UInt8) (f : Nd → Nd) (M : List (List UInt8 × Nd)) : keysM (turn p f M) = keysM M := by
  unfold keysM turn
  rw [List.map_map]
  refine List.map_congr_left fun x _ => ?_
  simp only [Function.comp]
  split <;> rfl
theorem MT.turn {P : Program} {k : TypeId} {w : World} {b : Nat} {M : List (List UInt8 × Nd)} (h : MT P k kS vN w b M) (p : List UInt8) (f : Nd → Nd) (hf : ∀ n, (f n).blk = n.blk) : MT P k kS vN w b (turn p f M) := by
  have hd : datM P k kS vN (Go.Proofs.YtlkchajkhplapaaGreatDoor.turn p f M) = datM P k kS vN M := by
    unfold datM Go.Proofs.YtlkchajkhplapaaGreatDoor.turn
    rw [List.map_map]
    congr 1
    congr 1
    refine List.map_congr_left fun x _ => ?_
    simp only [Function.comp]
    split
    · unfold ent vN
      rw [hf]
    · rfl
  refine ⟨⟨by rw [keys_turn]; exact h.1.1, fun a ha => h.1.2 a (by rw [keys_turn] at ha; exact ha)⟩, ?_⟩
  rw [hd, show (Go.Proofs.YtlkchajkhplapaaGreatDoor.turn p f M).length = M.length from by unfold Go.Proofs.YtlkchajkhplapaaGreatDoor.turn; rw [List.length_map]]
  exact h.2
theorem mem_turn {p q : List UInt8} {f : Nd → Nd} {M : List (List UInt8 × Nd)} {n : Nd} (h : (q, n) ∈ turn p f M) : ∃ m, (q, m) ∈ M ∧ ((q = p ∧ n = f m) ∨ (q ≠ p ∧ n = m)) := by
  unfold turn at h
  obtain ⟨x, hx, e⟩ := List.mem_map.1 h
  by_cases hp : x.1 = p
  · rw [if_pos hp] at e
    cases e
    exact ⟨x.2, hx, .inl ⟨hp, rfl⟩⟩
  · rw [if_neg hp] at e
    subst e
    exact ⟨n, hx, .inr ⟨hp, rfl⟩⟩

section
variable {w : World} {base : Nat} {e t : TypeId} {v : Value} {l : List UInt8}
theorem OwnB.ne_cells (h : OwnB w base e v l) {g : Nat} {cs : List Value} (hc : CB w g t cs) (hne : e ≠ t) : v.ownBlock ≠ some g := by
  rcases h.2 with ⟨rfl, _⟩ | ⟨g', _, _, rfl, _, hg', _⟩
  · simp [Value.ownBlock]
  · intro he
    have : g' = g := by simpa [Value.ownBlock] using he
    subst this
    rw [show w.heap[g']? = _ from hc] at hg'
    injection hg' with hg'
    injection hg' with _ ht
    exact hne ht.symm
end
theorem nodup_one : ∀ {M : List (List UInt8 × Nd)} {p : List UInt8} {n m : Nd}, (keysM M).Nodup → (p, n) ∈ M → (p, m) ∈ M → n = m
  | [], _, _, _, _, h, _ => by cases h
  | x :: M, p, n, m, hd, h1, h2 => by
    have hd' : x.1 ∉ keysM M ∧ (keysM M).Nodup := List.nodup_cons.1 hd
    rcases List.mem_cons.1 h1 with e1 | h1'
    · rcases List.mem_cons.1 h2 with e2 | h2'
      · rw [← e1] at e2; cases e2; rfl
      · exact absurd (mem_keysM.2 ⟨m, by rw [← e1]; exact h2'⟩) hd'.1
    · rcases List.mem_cons.1 h2 with e2 | h2'
      · exact absurd (mem_keysM.2 ⟨n, by rw [← e2]; exact h1'⟩) hd'.1
      · exact nodup_one hd'.2 h1' h2'
theorem TR.tb_ne {w : World} {tb mb : Nat} {M : List (List UInt8 × Nd)} (h : TR w tb mb M) {p : List UInt8} {n : Nd} (hin : (p, n) ∈ M) : tb ≠ n.blk ∧ mb ≠ n.blk := by
  have hN := (h.nodes p n hin).1
  constructor
  · intro e
    have := h.top
    rw [e] at this
    have hx := this.symm.trans hN
    injection hx with hx
    injection hx with h1 h2 h3
    exact absurd h2 (by decide)
  · intro e
    obtain ⟨hf, es, clock, hm, F⟩ := h.map
    rw [e] at hm
    have hx := hm.symm.trans hN
    injection hx with hx
    cases hx
/-- A node's mode is turned where it lies. -/
theorem TS.mode {w : World} {tb mb : Nat} {M : List (List UInt8 × Nd)} (h : TS w tb mb M) {p : List UInt8} {n : Nd} (hin : (p, n) ∈ M) (m' : Nat) (hm : m' < 64) :
    TS (w.setCell ⟨n.blk, 3, none⟩ (.int .i64 m')) tb mb (turn p (fun x => { x with mode := m' }) M) := by
  have hfar (k : Nat) (hk : k ≠ n.blk) : (w.setCell ⟨n.blk, 3, none⟩ (.int .i64 m')).heap[k]? = w.heap[k]? := Below.heap_setCell w ⟨n.blk, 3, none⟩ _ k hk
  have hne := h.tr.tb_ne hin
  refine ⟨⟨(hfar _ hne.1).trans h.tr.top, ?_, ?_⟩, ?_, ?_, ?_⟩
  · obtain ⟨hf, es, clock, hmb, F⟩ := h.tr.map
    exact MT.turn (w := w.setCell ⟨n.blk, 3, none⟩ (.int .i64 m')) ⟨hf, es, clock, (hfar _ hne.2).trans hmb, F⟩ p _ (fun _ => rfl)
  · intro q n1 h1
    obtain ⟨m, hmm, ⟨rfl, rfl⟩ | ⟨hq, rfl⟩⟩ := mem_turn h1
    · obtain rfl := nodup_one h.tr.map.1.1 hin hmm
      exact ⟨(h.tr.nodes _ _ hin).1.set_ 3 _, hm⟩
    · exact ⟨(h.tr.nodes _ _ hmm).1.far (p := ⟨n.blk, 3, none⟩) (fun e => hq (h.sep _ _ _ _ hmm hin e)) _, (h.tr.nodes _ _ hmm).2⟩
  · intro q1 n1 q2 n2 h1 h2 he
    obtain ⟨m1, hm1, e1⟩ := mem_turn h1
    obtain ⟨m2, hm2, e2⟩ := mem_turn h2
    refine h.sep q1 m1 q2 m2 hm1 hm2 ?_
    rcases e1 with ⟨_, rfl⟩ | ⟨_, rfl⟩ <;> rcases e2 with ⟨_, rfl⟩ | ⟨_, rfl⟩ <;> exact he
  · intro q n1 h1
    obtain ⟨m, hmm, e1⟩ := mem_turn h1
    obtain ⟨l, hl, hlen⟩ := h.row q m hmm
    have hd : n1.data = m.data := by rcases e1 with ⟨_, rfl⟩ | ⟨_, rfl⟩ <;> rfl
    rw [hd]
    refine ⟨l, World.ownsRow.kept (row := some n.blk) hl ⟨rfl, rfl, rfl, by simp, fun k hk hn => hfar k (fun e => hn (by rw [e]))⟩ (.inr (hl.ne_cells (h.tr.nodes _ _ hin).1 (by decide))), hlen⟩
  · intro q1 n1 q2 n2 k h1 h2 k1 k2
    obtain ⟨m1, hm1, e1⟩ := mem_turn h1
    obtain ⟨m2, hm2, e2⟩ := mem_turn h2
    have hd1 : n1.data = m1.data := by rcases e1 with ⟨_, rfl⟩ | ⟨_, rfl⟩ <;> rfl
    have hd2 : n2.data = m2.data := by rcases e2 with ⟨_, rfl⟩ | ⟨_, rfl⟩ <;> rfl
    exact h.rsep q1 m1 q2 m2 k hm1 hm2 (by rw [← hd1]; exact k1) (by rw [← hd2]; exact k2)
/-- A node's owner is turned where it lies. -/
theorem TS.owner {w : World} {tb mb : Nat} {M : List (List UInt8 × Nd)} (h : TS w tb mb M) {p : List UInt8} {n : Nd} (hin : (p, n) ∈ M) (o' : ByteArray) :
    TS (w.setCell ⟨n.blk, 2, none⟩ (.string o')) tb mb (turn p (fun x => { x with owner := o' }) M) := by
  have hfar (k : Nat) (hk : k ≠ n.blk) : (w.setCell ⟨n.blk, 2, none⟩ (.string o')).heap[k]? = w.heap[k]? := Below.heap_setCell w ⟨n.blk, 2, none⟩ _ k hk
  have hne := h.tr.tb_ne hin
  refine ⟨⟨(hfar _ hne.1).trans h.tr.top, ?_, ?_⟩, ?_, ?_, ?_⟩
  · obtain ⟨hf, es, clock, hmb, F⟩ := h.tr.map
    exact MT.turn (w := w.setCell ⟨n.blk, 2, none⟩ (.string o')) ⟨hf, es, clock, (hfar _ hne.2).trans hmb, F⟩ p _ (fun _ => rfl)
  · intro q n1 h1
    obtain ⟨m, hmm, ⟨rfl, rfl⟩ | ⟨hq, rfl⟩⟩ := mem_turn h1
    · obtain rfl := nodup_one h.tr.map.1.1 hin hmm
      exact ⟨(h.tr.nodes _ _ hin).1.set_ 2 _, (h.tr.nodes _ _ hin).2⟩
    · exact ⟨(h.tr.nodes _ _ hmm).1.far (p := ⟨n.blk, 2, none⟩) (fun e => hq (h.sep _ _ _ _ hmm hin e)) _, (h.tr.nodes _ _ hmm).2⟩
  · intro q1 n1 q2 n2 h1 h2 he
    obtain ⟨m1, hm1, e1⟩ := mem_turn h1
    obtain ⟨m2, hm2, e2⟩ := mem_turn h2
    refine h.sep q1 m1 q2 m2 hm1 hm2 ?_
    rcases e1 with ⟨_, rfl⟩ | ⟨_, rfl⟩ <;> rcases e2 with ⟨_, rfl⟩ | ⟨_, rfl⟩ <;> exact he
  · intro q n1 h1
    obtain ⟨m, hmm, e1⟩ := mem_turn h1
    obtain ⟨l, hl, hlen⟩ := h.row q m hmm
    have hd : n1.data = m.data := by rcases e1 with ⟨_, rfl⟩ | ⟨_, rfl⟩ <;> rfl
    rw [hd]
    refine ⟨l, World.ownsRow.kept (row := some n.blk) hl ⟨rfl, rfl, rfl, by simp, fun k hk hn => hfar k (fun e => hn (by rw [e]))⟩ (.inr (hl.ne_cells (h.tr.nodes _ _ hin).1 (by decide))), hlen⟩
  · intro q1 n1 q2 n2 k h1 h2 k1 k2
    obtain ⟨m1, hm1, e1⟩ := mem_turn h1
    obtain ⟨m2, hm2, e2⟩ := mem_turn h2
    have hd1 : n1.data = m1.data := by rcases e1 with ⟨_, rfl⟩ | ⟨_, rfl⟩ <;> rfl
    have hd2 : n2.data = m2.data := by rcases e2 with ⟨_, rfl⟩ | ⟨_, rfl⟩ <;> rfl
    exact h.rsep q1 m1 q2 m2 k hm1 hm2 (by rw [← hd1]; exact k1) (by rw [← hd2]; exact k2)
theorem TS.below {w w' : World} {tb mb : Nat} {M : List (List UInt8 × Nd)} (h : TS w tb mb M) (hb : Below w.heap.size w w') : TS w' tb mb M := by
  obtain ⟨h1, h2, h3⟩ := h.tr.lts
  exact ⟨h.tr.below hb h1 h2 h3, h.sep, fun p n hp => let ⟨l, hl, hh⟩ := h.row p n hp; ⟨l, hl.below hb, hh⟩, h.rsep⟩
end Go.Proofs.YtlkchajkhplapaaGreatDoor
namespace Go.Proofs.YtlkchajkhplapaaGreatDoor
open Go.RowKit Go.Maps Go.WideMaps

/-- What Chmod answers, and the node that it turns. -/
def chmodR (M : List (List UInt8 × Nd)) (who : ByteArray) (p : List UInt8) (m : Int) : Int × Option Nd :=
  if (comeR M who p).2 ≠ 0 then ((comeR M who p).2, none) else if ¬ (0 ≤ m ∧ m ≤ 63) then (1, none) else match M.lookup p with
    | none => (110, none)
    | some n => if who ≠ rootB ∧ who ≠ n.owner then (114, none) else (0, some n)
def turned (w1 : World) (m : Int) : Option Nd → World
  | none => w1
  | some n => w1.setCell ⟨n.blk, 3, none⟩ (.int .i64 m)
theorem comeR_ok {M : List (List UInt8 × Nd)} {who : ByteArray} {p : List UInt8} (h : (comeR M who p).2 = 0) : (comeR M who p).1 = ptrOf (M.lookup p) := by
  unfold comeR at h ⊢
  split
  · rename_i h1
    rw [if_pos h1] at h
    cases h
  · rename_i h1
    rw [if_neg h1] at h
    split
    · rfl
    · rename_i h2
      rw [if_neg h2] at h
      exact absurd h h2
theorem comeR_no {M : List (List UInt8 × Nd)} {who : ByteArray} {p : List UInt8} (h : (comeR M who p).2 ≠ 0) : (comeR M who p).1 = .pointer none := by
  unfold comeR at h ⊢
  split
  · rfl
  · rename_i h1
    rw [if_neg h1] at h
    split
    · rename_i h2
      rw [if_pos h2] at h
      exact absurd rfl h
    · rfl
set_option maxHeartbeats 2000000 in
theorem chmod_any (w : World) (tb mb : Nat) (M : List (List UInt8 × Nd)) (hT : TR w tb mb M) (who s : ByteArray) (p : List UInt8) (hp : s.data.toList = p) (hs : p.length ≤ 100000) (m : Int) :
    Calls Tryz.prog 19 #[.pointer (some ⟨tb, 0, none⟩), .string who, .string s, .int .i64 m] w fun e w' => e = .returned (.int .i64 (chmodR M who p m).1) ∧ ∃ w1, Below w.heap.size w w1 ∧ w' = turned w1 m (chmodR M who p m).2 := by
  have CA := come_any w tb mb M hT who s p hp hs
  obtain ⟨c, hc⟩ : ∃ c, c = (comeR M who p).2 := ⟨_, rfl⟩
  by_cases h0 : c ≠ 0
  · have hR : chmodR M who p m = (c, none) := by unfold chmodR; rw [← hc, if_pos h0]
    rw [comeR_no (by rw [← hc]; exact h0), ← hc] at CA
    have hcq : (c == 0) = false := beq_eq_false_iff_ne.2 h0
    have CC := Lib.hid CA
    rw [hR]
    clear CA hc hT hp hs hR
    go_enter Tryz.func19, Tryz.ntmps19
    go_wp2_with (go_at_call 50; refine CC.out.mono ?_; rintro e w1 ⟨rfl, hb1⟩)
    go_ret
    exact ⟨rfl, _, hb1, rfl⟩
  have h0' : c = 0 := Classical.byContradiction h0
  have hce : (comeR M who p).2 = 0 := by rw [← hc]; exact h0'
  rw [comeR_ok hce, hce] at CA
  by_cases h1 : 0 ≤ m ∧ m ≤ 63
  · cases hl : M.lookup p with
    | none =>
      have hR : chmodR M who p m = (110, none) := by unfold chmodR; rw [hce, if_neg (by decide), if_neg (by simpa using h1), hl]
      rw [hl] at CA
      have CC := Lib.hid CA
      have D1 := Lib.hid (decide_eq_true h1)
      rw [hR]
      clear CA hc hT hp hs hR hl h0 h0' hce h1
      go_enter Tryz.func19, Tryz.ntmps19
      go_wp2_with (first
        | (go_at_call 50; refine CC.out.mono ?_; rintro e w1 ⟨rfl, hb1⟩; rw [ptrOf])
        | (go_at_call 57; refine (isMode_any _ m).mono ?_; rintro e w2 ⟨rfl, rfl⟩; rw [D1.out]))
      go_ret
      exact ⟨rfl, _, hb1, rfl⟩
    | some n =>
      rw [hl] at CA
      have hin := lookup_in hl
      have hlt := (hT.nodes _ _ hin).1.lt
      have hN := (hT.nodes _ _ hin).1
      have CC := Lib.hid CA
      have D1 := Lib.hid (decide_eq_true h1)
      have HN := Lib.hid hN
      have HL := Lib.hid hlt
      have hR0 : chmodR M who p m = if who ≠ rootB ∧ who ≠ n.owner then (114, none) else (0, some n) := by unfold chmodR; rw [hce, if_neg (by decide), if_neg (by simpa using h1), hl]
      by_cases hr : who = rootB
      · rw [if_neg (fun e => e.1 hr)] at hR0
        rw [hR0]
        subst hr
        simp only [rootB]
        clear CA hc hT hp hs hR0 hl h0 h0' hce h1 hN hlt hin
        go_enter Tryz.func19, Tryz.ntmps19
        go_wp2_with (first
          | (go_at_call 50; refine CC.out.mono ?_; rintro e w1 ⟨rfl, hb1⟩; rw [ptrOf, vN]; have HN1 := Lib.hid (HN.out.below hb1 HL.out); have HB1 := Lib.hid hb1; have k2 := HN1.out.at_ (i := 2) (v := .string n.owner) rfl; have k3 := HN1.out.at_ (i := 3) (v := .int .i64 n.mode) rfl; have f3 := HN1.out.free 3; clear hb1)
          | (go_at_call 57; refine (isMode_any _ m).mono ?_; rintro e w2 ⟨rfl, rfl⟩; rw [D1.out]))
        go_ret
        exact ⟨rfl, _, HB1.out, rfl⟩
      · have n1 := str_ne hr
        have n1' : (who.toList == [114, 111, 111, 116]) = false := by rw [show ([114, 111, 111, 116] : List UInt8) = rootB.toList from by rw [ByteArray.toList_eq]; rfl]; exact n1
        clear n1
        by_cases ho : who = n.owner
        · rw [if_neg (fun e => e.2 ho)] at hR0
          rw [hR0]
          have how : n.owner = who := ho.symm
          clear ho
          clear CA hc hT hp hs hR0 hl h0 h0' hce h1 hN hlt hin
          go_enter Tryz.func19, Tryz.ntmps19
          go_wp2_with (first
            | (go_at_call 50; refine CC.out.mono ?_; rintro e w1 ⟨rfl, hb1⟩; rw [ptrOf, vN]; have HN1 := Lib.hid (HN.out.below hb1 HL.out); have HB1 := Lib.hid hb1; have k2 := HN1.out.at_ (i := 2) (v := .string who) (by show some (Value.string n.owner) = _; rw [how]); have k3 := HN1.out.at_ (i := 3) (v := .int .i64 n.mode) rfl; have f3 := HN1.out.free 3; clear hb1)
            | (go_at_call 57; refine (isMode_any _ m).mono ?_; rintro e w2 ⟨rfl, rfl⟩; rw [D1.out]))
          go_ret
          exact ⟨rfl, _, HB1.out, rfl⟩
        · rw [if_pos ⟨hr, ho⟩] at hR0
          rw [hR0]
          have n2 := str_ne ho
          clear CA hc hT hp hs hR0 hl h0 h0' hce h1 hN hlt hin
          go_enter Tryz.func19, Tryz.ntmps19
          go_wp2_with (first
            | (go_at_call 50; refine CC.out.mono ?_; rintro e w1 ⟨rfl, hb1⟩; rw [ptrOf, vN]; have HN1 := Lib.hid (HN.out.below hb1 HL.out); have HB1 := Lib.hid hb1; have k2 := HN1.out.at_ (i := 2) (v := .string n.owner) rfl; have k3 := HN1.out.at_ (i := 3) (v := .int .i64 n.mode) rfl; have f3 := HN1.out.free 3; clear hb1)
            | (go_at_call 57; refine (isMode_any _ m).mono ?_; rintro e w2 ⟨rfl, rfl⟩; rw [D1.out]))
          go_ret
          exact ⟨rfl, _, HB1.out, rfl⟩
  · have hR : chmodR M who p m = (1, none) := by unfold chmodR; rw [hce, if_neg (by decide), if_pos (by simpa using h1)]
    have CC := Lib.hid CA
    have D1 := Lib.hid (decide_eq_false h1)
    rw [hR]
    clear CA hc hT hp hs hR h0 h0' hce h1
    go_enter Tryz.func19, Tryz.ntmps19
    go_wp2_with (first
      | (go_at_call 50; refine CC.out.mono ?_; rintro e w1 ⟨rfl, hb1⟩)
      | (go_at_call 57; refine (isMode_any _ m).mono ?_; rintro e w2 ⟨rfl, rfl⟩; rw [D1.out]))
    go_ret
    exact ⟨rfl, _, hb1, rfl⟩
end Go.Proofs.YtlkchajkhplapaaGreatDoor
