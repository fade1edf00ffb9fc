/- Give. -/
import Derived.Test.YtlkchajkhplapaaGreatDoorTrn
namespace Go.Proofs.YtlkchajkhplapaaGreatDoor
open Go.RowKit Go.Maps Go.WideMaps

/-- What Give answers, and the node that it turns. -/
def giveR (M : List (List UInt8 × Nd)) (who : ByteArray) (p : List UInt8) : Int × Option Nd :=
  match (findR M who p).1 with
  | none => ((findR M who p).2, none)
  | some n => if who ≠ rootB then (114, none) else (0, some n)
def given (w1 : World) (o : ByteArray) : Option Nd → World
  | none => w1
  | some n => w1.setCell ⟨n.blk, 2, none⟩ (.string o)
theorem findR_cases (M : List (List UInt8 × Nd)) (who : ByteArray) (p : List UInt8) : (∃ c, c ≠ 0 ∧ findR M who p = (none, c)) ∨ (∃ n, (p, n) ∈ M ∧ findR M who p = (some n, 0)) := by
  unfold findR
  by_cases h1 : pathOk p = false
  · rw [if_pos h1]; exact .inl ⟨30, by decide, rfl⟩
  · rw [if_neg h1]
    by_cases h2 : comeE M who (aheads p) = 0
    · rw [if_pos h2]
      cases hl : M.lookup p with
      | none => exact .inl ⟨110, by decide, rfl⟩
      | some n => exact .inr ⟨n, lookup_in hl, rfl⟩
    · rw [if_neg h2]; exact .inl ⟨_, h2, rfl⟩
set_option maxHeartbeats 2000000 in
theorem give_any (w : World) (tb mb : Nat) (M : List (List UInt8 × Nd)) (hT : TR w tb mb M) (who s o : ByteArray) (p : List UInt8) (hp : s.data.toList = p) (hs : p.length ≤ 100000) (ho : o.size ≤ 1000000) :
    Calls Tryz.prog 21 #[.pointer (some ⟨tb, 0, none⟩), .string who, .string s, .string o] w fun e w' => e = .returned (.int .i64 (giveR M who p).1) ∧ ∃ w1, Below w.heap.size w w1 ∧ w' = given w1 o (giveR M who p).2 := by
  have CA := find_any w tb mb M hT who s p hp hs
  rcases findR_cases M who p with ⟨c, h0, hf⟩ | ⟨n, hin, hf⟩
  · have hR : giveR M who p = (c, none) := by unfold giveR; rw [hf]
    rw [hf] at CA
    have hcq : (c == 0) = false := beq_eq_false_iff_ne.2 h0
    have CC := Lib.hid CA
    rw [hR]
    clear CA hT hp hs hR hf
    go_enter Tryz.func21, Tryz.ntmps21
    go_wp2_with (go_at_call 58; refine CC.out.mono ?_; rintro e w1 ⟨rfl, hb1⟩; rw [ptrOf])
    go_ret
    exact ⟨rfl, _, hb1, rfl⟩
  · rw [hf] at CA
    have hlt := (hT.nodes _ _ hin).1.lt
    have hN := (hT.nodes _ _ hin).1
    have CC := Lib.hid CA
    have HN := Lib.hid hN
    have HL := Lib.hid hlt
    by_cases hr : who = rootB
    · have hR : giveR M who p = (0, some n) := by unfold giveR; rw [hf]; simp [hr]
      rw [hR]
      subst hr
      simp only [rootB]
      have HO := Lib.hid ho
      clear CA hT hp hs hR hf hN hlt hin ho
      go_enter Tryz.func21, Tryz.ntmps21
      go_wp2_with (first
        | (go_at_call 58; refine CC.out.mono ?_; rintro e w1 ⟨rfl, hb1⟩; rw [ptrOf, vN]; have HN1 := Lib.hid (HN.out.below hb1 HL.out); have HB1 := Lib.hid hb1; clear hb1)
        | (go_at_call 59; refine (clone_any o _ HO.out).mono ?_; rintro e w2 ⟨rfl, hb2⟩; have HN2 := Lib.hid (HN1.out.below hb2 HN1.out.lt); have HB2 := Lib.hid (HB1.out.trans (hb2.mono HB1.out.size)); have k2 := HN2.out.at_ (i := 2) (v := .string n.owner) rfl; have f2 := HN2.out.free 2; clear hb2))
      go_ret
      exact ⟨rfl, _, HB2.out, rfl⟩
    · have hR : giveR M who p = (114, none) := by unfold giveR; rw [hf]; simp [hr]
      rw [hR]
      have n1 := str_ne hr
      have n1' : (who.toList == [114, 111, 111, 116]) = false := by rw [show ([114, 111, 111, 116] : List UInt8) = rootB.toList from by rw [ByteArray.toList_eq]; rfl]; exact n1
      clear n1
      clear CA hT hp hs hR hf hN hlt hin ho
      go_enter Tryz.func21, Tryz.ntmps21
      go_wp2_with (go_at_call 58; refine CC.out.mono ?_; rintro e w1 ⟨rfl, hb1⟩; rw [ptrOf, vN])
      go_ret
      exact ⟨rfl, _, hb1, rfl⟩
end Go.Proofs.YtlkchajkhplapaaGreatDoor
namespace Go.Proofs.YtlkchajkhplapaaGreatDoor
open Go.RowKit Go.Maps Go.WideMaps

/-- What Read answers: a file, or why not. -/
def readR (M : List (List UInt8 × Nd)) (who : ByteArray) (p : List UInt8) : Option Nd × Int :=
  match (findR M who p).1 with
  | none => (none, (findR M who p).2)
  | some n => if n.dir = true then (none, 113) else if mayOk who 4 n.owner n.mode = false then (none, 114) else (some n, 0)
set_option maxHeartbeats 2000000 in
theorem read_any (w : World) (tb mb : Nat) (M : List (List UInt8 × Nd)) (hT : TS w tb mb M) (who s : ByteArray) (p : List UInt8) (hp : s.data.toList = p) (hs : p.length ≤ 100000) :
    Calls Tryz.prog 66 #[.pointer (some ⟨tb, 0, none⟩), .string who, .string s] w fun e w' => Below w.heap.size w w' ∧ (match (readR M who p).1 with
      | none => e = .returned (.tuple #[.slice none 0 0, .int .i64 (readR M who p).2])
      | some n => ∃ A c l, OwnB w 0 5 n.data l ∧ e = .returned (.tuple #[.slice A l.length c, .int .i64 0]) ∧ OwnB w' w.heap.size 5 (.slice A l.length c) l) := by
  have CA := find_any w tb mb M hT.tr who s p hp hs
  rcases findR_cases M who p with ⟨c, h0, hf⟩ | ⟨n, hin, hf⟩
  · have hR : readR M who p = (none, c) := by unfold readR; rw [hf]
    rw [hf] at CA
    have hcq : (c == 0) = false := beq_eq_false_iff_ne.2 h0
    have CC := Lib.hid CA
    rw [hR]
    clear CA hT hp hs hR hf
    go_enter Tryz.func66, Tryz.ntmps66
    go_wp2_with (go_at_call 58; refine CC.out.mono ?_; rintro e w1 ⟨rfl, hb1⟩; rw [ptrOf])
    go_ret2
    exact ⟨hb1, rfl⟩
  · rw [hf] at CA
    have hN := hT.tr.nodes _ _ hin
    have hlt := hN.1.lt
    have CC := Lib.hid CA
    have HN := Lib.hid hN
    have HL := Lib.hid hlt
    have hR0 : readR M who p = if n.dir = true then (none, 113) else if mayOk who 4 n.owner n.mode = false then (none, 114) else (some n, 0) := by unfold readR; rw [hf]
    cases hd : n.dir with
    | true =>
      rw [if_pos hd] at hR0
      rw [hR0]
      have HD := Lib.hid hd
      clear CA hT hp hs hR0 hf hN hlt hin hd
      go_enter Tryz.func66, Tryz.ntmps66
      go_wp2_with (go_at_call 58; refine CC.out.mono ?_; rintro e w1 ⟨rfl, hb1⟩; rw [ptrOf, vN]; have HN1 := Lib.hid (HN.out.1.below hb1 HL.out); have HB1 := Lib.hid hb1; have k1 := HN1.out.at_ (i := 1) (v := .bool true) (by show some (Value.bool n.dir) = _; rw [HD.out]); clear hb1)
      go_ret2
      exact ⟨HB1.out, rfl⟩
    | false =>
      rw [if_neg (by rw [hd]; decide)] at hR0
      have HD := Lib.hid hd
      cases hm : mayOk who 4 n.owner n.mode with
      | false =>
        rw [if_pos hm] at hR0
        rw [hR0]
        have HM := Lib.hid hm
        clear CA hT hp hs hR0 hf hN hlt hin hd hm
        go_enter Tryz.func66, Tryz.ntmps66
        go_wp2_with (first
          | (go_at_call 58; refine CC.out.mono ?_; rintro e w1 ⟨rfl, hb1⟩; rw [ptrOf, vN]; have HN1 := Lib.hid (HN.out.1.below hb1 HL.out); have HB1 := Lib.hid hb1; have k1 := HN1.out.at_ (i := 1) (v := .bool false) (by show some (Value.bool n.dir) = _; rw [HD.out]); clear hb1)
          | (go_at_call 63; refine (may_any _ who 4 n.blk _ n.owner n.dir n.mode n.data HN1.out HN.out.2 (.inr (.inr rfl))).mono ?_; rintro e w2 ⟨rfl, rfl⟩; rw [HM.out]))
        go_ret2
        exact ⟨HB1.out, rfl⟩
      | true =>
        rw [if_neg (by rw [hm]; decide)] at hR0
        rw [hR0]
        obtain ⟨l, hol, hll⟩ := hT.row _ _ hin
        obtain ⟨A, cap, hv, hrb, -⟩ := hol.shape
        have HM := Lib.hid hm
        have HV := Lib.hid hv
        have HRB := Lib.hid hrb
        have HOL := Lib.hid hol
        have HLL := Lib.hid hll
        clear CA hT hp hs hR0 hf hN hlt hin hd hm hv hrb hol hll
        go_enter Tryz.func66, Tryz.ntmps66
        go_wp2_with (first
          | (go_at_call 58; refine CC.out.mono ?_; rintro e w1 ⟨rfl, hb1⟩; rw [ptrOf, vN]; have HN1 := Lib.hid (HN.out.1.below hb1 HL.out); have HB1 := Lib.hid hb1; have k1 := HN1.out.at_ (i := 1) (v := .bool false) (by show some (Value.bool n.dir) = _; rw [HD.out]); have k4 := HN1.out.at_ (i := 4) (v := .slice A l.length cap) (by show some n.data = _; rw [HV.out]); clear hb1)
          | (go_at_call 63; refine (may_any _ who 4 n.blk _ n.owner n.dir n.mode n.data HN1.out HN.out.2 (.inr (.inr rfl))).mono ?_; rintro e w2 ⟨rfl, rfl⟩; rw [HM.out])
          | (go_at_call 64; refine (bclone_any A l cap l.length _ rfl ((HRB.out.below HB1.out).more HB1.out.size) (by have := HLL.out; omega)).mono ?_; rintro e w3 ⟨A', c', rfl, ho3, hb3⟩; have HO3 := Lib.hid ho3; have HB3 := Lib.hid hb3; clear ho3 hb3))
        go_ret2
        exact ⟨HB1.out.trans (HB3.out.mono HB1.out.size), A', c', l, HOL.out, rfl, HO3.out.base_ HB1.out.size⟩
end Go.Proofs.YtlkchajkhplapaaGreatDoor
namespace Go.Proofs.YtlkchajkhplapaaGreatDoor
open Go.RowKit Go.Maps Go.WideMaps

theorem last_split (c : UInt8) : ∀ l : List UInt8, c ∈ l → ∃ a b, l = a ++ c :: b ∧ c ∉ b
  | [], h => by cases h
  | x :: l, h => by
    by_cases hl : c ∈ l
    · obtain ⟨a, b, e, hb⟩ := last_split c l hl
      exact ⟨x :: a, b, by rw [e]; rfl, hb⟩
    · rcases List.mem_cons.1 h with rfl | h
      · exact ⟨[], l, rfl, hl⟩
      · exact absurd h hl
theorem dirs_at (l : List UInt8) (k : Nat) (h : l[k + 1]? = some 47) : l.take (k + 1) ∈ dirs l (k + 1) := by
  rw [dirs, if_pos h]
  exact List.mem_append_right _ (List.mem_singleton.2 rfl)
theorem path_head {p : List UInt8} (h : pathOk p = true) : ∃ t, p = 47 :: t := by
  unfold pathOk at h
  rw [Bool.or_eq_true] at h
  rcases h with h | h
  · exact ⟨[], by simpa using h⟩
  · rw [Bool.and_eq_true, Bool.and_eq_true] at h
    have h1 := h.1.1
    cases p with
    | nil => simp at h1
    | cons x t =>
      simp at h1
      exact ⟨t, by rw [h1]⟩
/-- A path but the top has a parent, which is on the way. -/
theorem parent_on {p : List UInt8} (h : pathOk p = true) (h1 : p ≠ [47]) : ∃ a b, p = a ++ 47 :: b ∧ (47 : UInt8) ∉ b ∧ p.take (max a.length 1) ∈ aheads p := by
  obtain ⟨t, ht⟩ := path_head h
  obtain ⟨a, b, hab, hb⟩ := last_split 47 p (by rw [ht]; exact List.mem_cons_self)
  refine ⟨a, b, hab, hb, ?_⟩
  unfold aheads
  rw [if_neg h1]
  have hlen : p.length = a.length + 1 + b.length := by rw [hab, List.length_append, List.length_cons]; omega
  cases a with
  | nil =>
    have : p.take (max ([] : List UInt8).length 1) = [47] := by rw [ht]; rfl
    rw [this]
    exact (dirs_le p (Nat.zero_le _)).subset (by simp [dirs])
  | cons x a =>
    have hk : p[a.length + 1]? = some 47 := by rw [hab, List.getElem?_append_right (by simp)]; simp
    rw [show max (x :: a).length 1 = a.length + 1 by simp]
    exact (dirs_le p (show a.length + 1 ≤ p.length - 1 by rw [hlen, List.length_cons]; omega)).subset (dirs_at p a.length hk)
theorem comeE_all {M : List (List UInt8 × Nd)} {who : ByteArray} : ∀ {ds : List (List UInt8)}, comeE M who ds = 0 → ∀ d ∈ ds, ∃ n, M.lookup d = some n ∧ n.dir = true
  | [], _, d, hd => by cases hd
  | x :: ds, h, d, hd => by
    rw [comeE] at h
    cases hl : M.lookup x with
    | none => rw [hl] at h; cases h
    | some n =>
      rw [hl] at h
      simp only at h
      by_cases h1 : n.dir = false
      · rw [if_pos h1] at h; cases h
      · rw [if_neg h1] at h
        by_cases h2 : mayOk who 1 n.owner n.mode = false
        · rw [if_pos h2] at h; cases h
        · rw [if_neg h2] at h
          rcases List.mem_cons.1 hd with rfl | hd
          · exact ⟨n, hl, by cases hn : n.dir <;> simp_all⟩
          · exact comeE_all h d hd
theorem lookup_app (M : List (List UInt8 × Nd)) (p q : List UInt8) (n : Nd) (h : M.lookup p = none) : (M ++ [(p, n)]).lookup q = if q = p then some n else M.lookup q := by
  induction M with
  | nil =>
    rw [List.nil_append, List.lookup_cons]
    by_cases e : q = p
    · rw [if_pos e, e]; simp
    · rw [if_neg e, beq_eq_false_iff_ne.2 e]
  | cons x M ih =>
    obtain ⟨y, m⟩ := x
    rw [List.lookup_cons] at h
    rw [List.cons_append, List.lookup_cons, List.lookup_cons]
    by_cases e1 : p = y
    · rw [e1] at h; simp at h
    · rw [beq_eq_false_iff_ne.2 e1] at h
      have ih := ih h
      by_cases e2 : q = y
      · rw [e2]
        simp only [beq_self_eq_true]
        rw [if_neg (fun e => e1 e.symm)]
      · rw [beq_eq_false_iff_ne.2 e2]
        exact ih
theorem without_out {M : List (List UInt8 × Nd)} {p : List UInt8} (h : M.lookup p = none) : withoutM M p = M := by
  unfold withoutM
  refine List.filter_eq_self.2 fun x hx => ?_
  have := lookup_out h
  simp only [decide_eq_true_eq]
  intro e
  exact this (mem_keysM.2 ⟨x.2, by rw [← e]; exact hx⟩)
theorem lookup_turn (M : List (List UInt8 × Nd)) (p q : List UInt8) (f : Nd → Nd) : (turn p f M).lookup q = if q = p then (M.lookup q).map f else M.lookup q := by
  induction M with
  | nil => simp [turn]
  | cons x M ih =>
    obtain ⟨y, m⟩ := x
    unfold turn at ih ⊢
    rw [List.map_cons]
    by_cases e1 : y = p
    · rw [if_pos e1, List.lookup_cons, List.lookup_cons, ih]
      by_cases e2 : q = y
      · rw [e2]; simp [e1]
      · rw [beq_eq_false_iff_ne.2 e2]
    · rw [if_neg e1, List.lookup_cons, List.lookup_cons, ih]
      by_cases e2 : q = y
      · rw [e2]; simp [e1]
      · rw [beq_eq_false_iff_ne.2 e2]
end Go.Proofs.YtlkchajkhplapaaGreatDoor
namespace Go.Proofs.YtlkchajkhplapaaGreatDoor
open Go.RowKit Go.Maps Go.WideMaps

section
variable {w w' : World} {base : Nat} {e : TypeId} {v : Value} {l : List UInt8}
theorem OwnB.ne_map (h : OwnB w base e v l) {g : Nat} {es : Array MapEntry} {cl : Nat} (hg : w.heap[g]? = some (.map es cl)) : v.ownBlock ≠ some g := by
  rcases h.2 with ⟨rfl, _⟩ | ⟨g', _, _, rfl, _, hg', _⟩
  · simp [Value.ownBlock]
  · intro he
    have : g' = g := by simpa [Value.ownBlock] using he
    subst this
    rw [hg] at hg'
    cases hg'
theorem MT.block {P : Program} {k : TypeId} {α β : Type} {kv : α → Value} {vv : β → Value} {w : World} {b : Nat} {M : List (α × β)} (h : MT P k kv vv w b M) : ∃ es cl, w.heap[b]? = some (.map es cl) := by
  obtain ⟨_, es, clock, hm, _⟩ := h
  exact ⟨es, clock, hm⟩
theorem CB.ne_map {g b : Nat} {t : TypeId} {cs : List Value} (h : CB w g t cs) {es : Array MapEntry} {cl : Nat} (hb : w.heap[b]? = some (.map es cl)) : g ≠ b := by
  intro e
  subst e
  have := hb.symm.trans h
  injection this with this
  cases this
end
/-- A node is put where there is none. -/
theorem TS.put {w w' : World} {tb mb : Nat} {M : List (List UInt8 × Nd)} (h : TS w tb mb M) {p : List UInt8} {nd : Nd} (hp : M.lookup p = none)
    (hm : MT Tryz.prog 9 kS vN w' mb (M ++ [(p, nd)])) (hg : w.grownBy w' (some mb)) (hC : CB w nd.blk 63 (nodeC ⟨p.toArray⟩ nd.dir nd.owner nd.mode nd.data)) (hmode : nd.mode < 64)
    (hne : ∀ q n, (q, n) ∈ M → n.blk ≠ nd.blk) {l : List UInt8} (ho : OwnB w 0 5 nd.data l) (hl : l.length ≤ 1000000) (hr : ∀ q n k, (q, n) ∈ M → n.data.ownBlock = some k → nd.data.ownBlock ≠ some k) : TS w' tb mb (M ++ [(p, nd)]) := by
  obtain ⟨es, cl, hmb⟩ := h.tr.map.block
  have htb : CB w tb 96 [.map (some mb)] := h.tr.top
  have mem : ∀ {q n}, (q, n) ∈ M ++ [(p, nd)] → (q, n) ∈ M ∨ (q = p ∧ n = nd) := by
    intro q n hq
    rcases List.mem_append.1 hq with hq | hq
    · exact .inl hq
    · rw [List.mem_singleton] at hq
      injection hq with h1 h2
      exact .inr ⟨h1, h2⟩
  have hout : ∀ n, (p, n) ∉ M := fun n hn => lookup_out hp (mem_keysM.2 ⟨n, hn⟩)
  refine ⟨⟨htb.grown hg (htb.ne_map hmb), hm, fun q n hq => ?_⟩, fun q n q' n' hq hq' he => ?_, fun q n hq => ?_, fun q n q' n' k hq hq' hk hk' => ?_⟩
  · rcases mem hq with hq | ⟨rfl, rfl⟩
    · exact ⟨(h.tr.nodes q n hq).1.grown hg ((h.tr.nodes q n hq).1.ne_map hmb), (h.tr.nodes q n hq).2⟩
    · exact ⟨hC.grown hg (hC.ne_map hmb), hmode⟩
  · rcases mem hq with i1 | ⟨rfl, rfl⟩ <;> rcases mem hq' with i2 | ⟨rfl, rfl⟩
    · exact h.sep _ _ _ _ i1 i2 he
    · exact absurd he (hne _ _ i1)
    · exact absurd he.symm (hne _ _ i2)
    · rfl
  · rcases mem hq with hq | ⟨rfl, rfl⟩
    · obtain ⟨l', h1, h2⟩ := h.row q n hq
      exact ⟨l', World.ownsRow.kept h1 hg (.inr (h1.ne_map hmb)), h2⟩
    · exact ⟨l, World.ownsRow.kept ho hg (.inr (ho.ne_map hmb)), hl⟩
  · rcases mem hq with i1 | ⟨rfl, rfl⟩ <;> rcases mem hq' with i2 | ⟨rfl, rfl⟩
    · exact h.rsep _ _ _ _ k i1 i2 hk hk'
    · exact absurd hk' (hr _ _ k i1 hk)
    · exact absurd hk (hr _ _ k i2 hk')
    · rfl
/-- A node's data are set where it lies. -/
theorem TS.data {w : World} {tb mb : Nat} {M : List (List UInt8 × Nd)} (h : TS w tb mb M) {p : List UInt8} {n : Nd} (hin : (p, n) ∈ M) (v : Value) {l : List UInt8} (ho : OwnB w 0 5 v l) (hl : l.length ≤ 1000000) (hr : ∀ q n' k, (q, n') ∈ M → n'.data.ownBlock = some k → v.ownBlock ≠ some k) :
    TS (w.setCell ⟨n.blk, 4, none⟩ v) tb mb (turn p (fun x => { x with data := v }) M) := by
  have hfar (k : Nat) (hk : k ≠ n.blk) : (w.setCell ⟨n.blk, 4, none⟩ v).heap[k]? = w.heap[k]? := Below.heap_setCell w ⟨n.blk, 4, none⟩ _ k hk
  have hne := h.tr.tb_ne hin
  have hgr : w.grownBy (w.setCell ⟨n.blk, 4, none⟩ v) (some n.blk) := grownC_set _ _ _ _
  refine ⟨⟨(hfar _ hne.1).trans h.tr.top, ?_, ?_⟩, ?_, ?_, ?_⟩
  · obtain ⟨hf, es, clock, hmb, F⟩ := h.tr.map
    exact MT.turn (w := w.setCell ⟨n.blk, 4, none⟩ v) ⟨hf, es, clock, (hfar _ hne.2).trans hmb, F⟩ p _ (fun _ => rfl)
  · intro q n1 h1
    obtain ⟨m, hmm, ⟨rfl, rfl⟩ | ⟨hq, rfl⟩⟩ := mem_turn h1
    · obtain rfl := nodup_one h.tr.map.1.1 hin hmm
      exact ⟨(h.tr.nodes _ _ hin).1.set_ 4 _, (h.tr.nodes _ _ hin).2⟩
    · exact ⟨(h.tr.nodes _ _ hmm).1.far (p := ⟨n.blk, 4, none⟩) (fun e => hq (h.sep _ _ _ _ hmm hin e)) _, (h.tr.nodes _ _ hmm).2⟩
  · intro q1 n1 q2 n2 h1 h2 he
    obtain ⟨m1, hm1, e1⟩ := mem_turn h1
    obtain ⟨m2, hm2, e2⟩ := mem_turn h2
    refine h.sep q1 m1 q2 m2 hm1 hm2 ?_
    rcases e1 with ⟨_, rfl⟩ | ⟨_, rfl⟩ <;> rcases e2 with ⟨_, rfl⟩ | ⟨_, rfl⟩ <;> exact he
  · intro q n1 h1
    obtain ⟨m, hmm, e1⟩ := mem_turn h1
    rcases e1 with ⟨_, rfl⟩ | ⟨_, rfl⟩
    · exact ⟨l, World.ownsRow.kept ho hgr (.inr (ho.ne_cells (h.tr.nodes _ _ hin).1 (by decide))), hl⟩
    · obtain ⟨l', hl', hlen⟩ := h.row q n1 hmm
      exact ⟨l', World.ownsRow.kept hl' hgr (.inr (hl'.ne_cells (h.tr.nodes _ _ hin).1 (by decide))), hlen⟩
  · intro q1 n1 q2 n2 k h1 h2 k1 k2
    obtain ⟨m1, hm1, e1⟩ := mem_turn h1
    obtain ⟨m2, hm2, e2⟩ := mem_turn h2
    rcases e1 with ⟨a1, rfl⟩ | ⟨a1, rfl⟩ <;> rcases e2 with ⟨a2, rfl⟩ | ⟨a2, rfl⟩
    · rw [a1, a2]
    · exact absurd k1 (hr _ _ k hm2 k2)
    · exact absurd k2 (hr _ _ k hm1 k1)
    · exact h.rsep q1 n1 q2 n2 k hm1 hm2 k1 k2
end Go.Proofs.YtlkchajkhplapaaGreatDoor
namespace Go.Proofs.YtlkchajkhplapaaGreatDoor
open Go.RowKit Go.Maps Go.WideMaps

/-- A path's parent. -/
def parOf (p : List UInt8) : List UInt8 := p.take (max (p.length - 1 - (p.reverse.takeWhile (fun c => !(c == 47))).length) 1)
theorem takeWhile_rev (a b : List UInt8) (hb : (47 : UInt8) ∉ b) : ((a ++ 47 :: b).reverse.takeWhile (fun c => !(c == 47))).length = b.length := by
  rw [List.reverse_append, List.reverse_cons, List.append_assoc]
  have h : ∀ (r s : List UInt8), (47 : UInt8) ∉ r → (r ++ ([47] ++ s)).takeWhile (fun c => !(c == 47)) = r := by
    intro r s hr
    induction r with
    | nil => rfl
    | cons x r ih =>
      have hx : x ≠ 47 := fun e => hr (by rw [e]; exact List.mem_cons_self)
      rw [List.cons_append, List.takeWhile_cons, beq_eq_false_iff_ne.2 hx]
      simp only [Bool.not_false, if_true]
      rw [ih (fun e => hr (List.mem_cons_of_mem _ e))]
  rw [h b.reverse a.reverse (by simpa using hb), List.length_reverse]
theorem parOf_eq {p a b : List UInt8} (h : p = a ++ 47 :: b) (hb : (47 : UInt8) ∉ b) : parOf p = p.take (max a.length 1) := by
  unfold parOf
  rw [h, takeWhile_rev a b hb, List.length_append, List.length_cons]
  congr 1
  congr 1
  omega
/-- May a node be made at a path to which one came? -/
def addC (M : List (List UInt8 × Nd)) (who : ByteArray) (p : List UInt8) : Int := match M.lookup (parOf p) with
  | none => 0
  | some n => if mayOk who 2 n.owner n.mode = false then 114 else if 64 ≤ M.length then 2 else 0
def mkdirC (M : List (List UInt8 × Nd)) (who : ByteArray) (p : List UInt8) (m : Int) : Int :=
  if (comeR M who p).2 ≠ 0 then (comeR M who p).2 else if ¬ (0 ≤ m ∧ m ≤ 63) then 1 else match M.lookup p with
    | some _ => 111
    | none => addC M who p
def writeC (M : List (List UInt8 × Nd)) (who : ByteArray) (p : List UInt8) (len : Nat) (m : Int) : Int :=
  if (comeR M who p).2 ≠ 0 then (comeR M who p).2 else if ¬ (0 ≤ m ∧ m ≤ 63) then 1 else if 1000 < len then 23 else match M.lookup p with
    | none => addC M who p
    | some n => if n.dir = true then 113 else if mayOk who 2 n.owner n.mode = false then 114 else 0
theorem come_path {M : List (List UInt8 × Nd)} {who : ByteArray} {p : List UInt8} (h : (comeR M who p).2 = 0) : pathOk p = true ∧ comeE M who (aheads p) = 0 := by
  unfold comeR at h
  split at h
  · cases h
  · rename_i h1
    split at h
    · rename_i h2
      exact ⟨by cases hp : pathOk p <;> simp_all, h2⟩
    · rename_i h2
      exact absurd h h2
/-- Where there is no node at a path to which one came, there is its parent. -/
theorem parent_in {M : List (List UInt8 × Nd)} {who : ByteArray} {p : List UInt8} (h : (comeR M who p).2 = 0) (ht : ∃ n, M.lookup [47] = some n) (hn : M.lookup p = none) :
    ∃ a b n, p = a ++ 47 :: b ∧ (47 : UInt8) ∉ b ∧ parOf p = p.take (max a.length 1) ∧ M.lookup (parOf p) = some n ∧ n.dir = true := by
  obtain ⟨h1, h2⟩ := come_path h
  have hne : p ≠ [47] := by
    intro e
    obtain ⟨n, ht⟩ := ht
    rw [e, ht] at hn
    cases hn
  obtain ⟨a, b, hab, hb, hin⟩ := parent_on h1 hne
  obtain ⟨n, hl, hd⟩ := comeE_all h2 _ hin
  rw [← parOf_eq hab hb] at hin hl
  exact ⟨a, b, n, hab, hb, parOf_eq hab hb, hl, hd⟩
end Go.Proofs.YtlkchajkhplapaaGreatDoor
