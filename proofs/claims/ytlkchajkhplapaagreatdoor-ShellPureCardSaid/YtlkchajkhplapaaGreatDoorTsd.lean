/- A Tree beside what a law was handed; the walk of speaks. -/
import Derived.Test.YtlkchajkhplapaaGreatDoorTsb
import Derived.Test.YtlkchajkhplapaaGreatDoorTsc
namespace Go.Proofs.YtlkchajkhplapaaGreatDoor
open Go.RowKit Go.Maps Go.WideMaps

/-- A Tree in memory that was made since w0. -/
structure TG (w0 w : World) (tb mb : Nat) (M : List (List UInt8 × Nd)) : Prop where
  ts : TS w tb mb M
  gr : w0.grownBy w none
  b1 : w0.heap.size ≤ tb
  b2 : w0.heap.size ≤ mb
  b3 : ∀ p n, (p, n) ∈ M → w0.heap.size ≤ n.blk
/-- The rows of bytes stay. -/
def Keep (w w' : World) : Prop := ∀ v l, OwnB w 0 5 v l → OwnB w' 0 5 v l
section
variable {w0 w w' w2 : World} {tb mb : Nat} {M : List (List UInt8 × Nd)} {p : List UInt8}
theorem Keep.below (h : Below w.heap.size w w') : Keep w w' := fun _ _ ho => ho.below h
theorem Keep.trans (h : Keep w w') (k : Keep w' w2) : Keep w w2 := fun v l ho => k v l (h v l ho)
theorem none_of {z : Nat} (h : w0.grownBy w none) (k : w.grownBy w' (some z)) (hz : w0.heap.size ≤ z) : w0.grownBy w' none := grown_new h k hz
theorem TG.below (h : TG w0 w tb mb M) (hb : Below w.heap.size w w') : TG w0 w' tb mb M :=
  ⟨h.ts.below hb, h.gr.trans (none_of_below hb (Nat.le_refl _)), h.b1, h.b2, h.b3⟩
theorem TG.put {dir : Bool} {owner : ByteArray} {mode : Nat} {l : List UInt8} (h : TG w0 w tb mb M) (hp : Put w w' tb mb M p dir owner mode l) : ∃ b v, TG w0 w' tb mb (M ++ [(p, ⟨b, dir, owner, mode, v⟩)]) ∧ OwnB w' 0 5 v l := by
  obtain ⟨⟨b, d, o, m, v⟩, rfl, rfl, rfl, h4, h5, h6, h7⟩ := hp
  refine ⟨b, v, ⟨h4, none_of h.gr h6 h.b2, h.b1, h.b2, fun q n hq => ?_⟩, OwnB.base_ h5 (Nat.zero_le _)⟩
  rcases List.mem_append.1 hq with hq | hq
  · exact h.b3 q n hq
  · rw [List.mem_singleton] at hq
    cases hq
    exact Nat.le_trans h.gr.size h7
theorem b3_turn (h : ∀ p n, (p, n) ∈ M → w0.heap.size ≤ n.blk) (f : Nd → Nd) (hf : ∀ n, (f n).blk = n.blk) : ∀ q n, (q, n) ∈ turn p f M → w0.heap.size ≤ n.blk := by
  intro q n hq
  obtain ⟨m, hm, ⟨_, rfl⟩ | ⟨_, rfl⟩⟩ := mem_turn hq
  · rw [hf]; exact h q m hm
  · exact h q n hm
theorem TG.new (w : World) : Calls Tryz.prog 15 #[] w fun e w' => ∃ tb mb b v, e = .returned (.pointer (some ⟨tb, 0, none⟩)) ∧ TG w w' tb mb [([47], ⟨b, true, rootB, 61, v⟩)] ∧ w.grownBy w' none := by
  refine (tnew_any w).mono ?_
  rintro e w' ⟨tb, mb, ⟨b, d, o, m, v⟩, rfl, h1, rfl, rfl, rfl, h2, h3, h4, h5⟩
  refine ⟨tb, mb, b, v, rfl, ⟨h1, h2, h3, h4, fun q n hq => ?_⟩, h2⟩
  rw [List.mem_singleton] at hq
  cases hq
  exact h5
theorem TG.since (h : TG w w' tb mb M) (hg : w0.grownBy w none) : TG w0 w' tb mb M := ⟨h.ts, hg.trans h.gr, Nat.le_trans hg.size h.b1, Nat.le_trans hg.size h.b2, fun q n hq => Nat.le_trans hg.size (h.b3 q n hq)⟩
theorem OwnB.uniq {base base' : Nat} {e : TypeId} {v : Value} {l l' : List UInt8} (h : OwnB w base e v l) (h' : OwnB w base' e v l') : l = l' := by
  have hinj : ∀ a b : List UInt8, bcells a = bcells b → a = b := by
    intro a
    induction a with
    | nil => intro b e; cases b <;> simp_all [bcells]
    | cons x a ih =>
      intro b e
      cases b with
      | nil => simp [bcells] at e
      | cons y b =>
        simp only [bcells, List.map_cons, List.cons.injEq] at e
        obtain ⟨e1, e2⟩ := e
        injection e1 with _ e1
        rw [ih b e2, UInt8.toNat_inj.1 (by omega : x.toNat = y.toNat)]
  rcases h.2 with ⟨rfl, hl⟩ | ⟨g, cap, cur, rfl, hb, hg, hc, hm, hz, ht⟩
  · rcases h'.2 with ⟨_, hl'⟩ | ⟨g, cap, cur, hv, _⟩
    · rw [List.eq_nil_of_length_eq_zero hl, List.eq_nil_of_length_eq_zero hl']
    · injection hv with h1 _ _
      cases h1
  · rcases h'.2 with ⟨hv, _⟩ | ⟨g', cap', cur', hv, hb', hg', hc', hm', hz', ht'⟩
    · injection hv with h1 _ _
      cases h1
    · injection hv with h1 h2 h3
      injection h1 with h1
      injection h1 with h1
      subst h1
      rw [hg] at hg'
      injection hg' with hg'
      injection hg' with hg'
      subst hg'
      rw [h2] at ht
      exact hinj _ _ (ht.symm.trans ht')

/-! The calls at such a Tree. -/
theorem g_mkdir_no (h : TG w0 w tb mb M) (ht : ∃ n, M.lookup [47] = some n) (hM : M.length ≤ 1000000) (who s : ByteArray) (p : List UInt8) (hp : s.data.toList = p) (hs : p.length ≤ 100000) (m c : Int) (hcc : mkdirC M who p m = c) (hc : c ≠ 0) :
    Calls Tryz.prog 23 #[.pointer (some ⟨tb, 0, none⟩), .string who, .string s, .int .i64 m] w fun e w' => e = .returned (.int .i64 c) ∧ TG w0 w' tb mb M ∧ Keep w w' := by
  subst hcc
  exact (mkdir_no w tb mb M h.ts ht hM who s p hp hs m hc).mono (fun e w' hh => ⟨hh.1, h.below hh.2, Keep.below hh.2⟩)
theorem g_mkdir_ok (h : TG w0 w tb mb M) (ht : ∃ n, M.lookup [47] = some n) (who s : ByteArray) (hw : who.size ≤ 1000000) (p : List UInt8) (hp : s.data.toList = p) (hs : p.length ≤ 100000) (m : Int) (hc : mkdirC M who p m = 0) :
    Calls Tryz.prog 23 #[.pointer (some ⟨tb, 0, none⟩), .string who, .string s, .int .i64 m] w fun e w' => e = .returned (.int .i64 0) ∧ ∃ b v, TG w0 w' tb mb (M ++ [(p, ⟨b, true, who, m.toNat, v⟩)]) := by
  refine (mkdir_ok w tb mb M h.ts ht who s hw p hp hs m hc).mono (fun e w' hh => ⟨hh.1, ?_⟩)
  obtain ⟨b, v, h1, _⟩ := h.put hh.2
  exact ⟨b, v, h1⟩
theorem g_write_no (h : TG w0 w tb mb M) (ht : ∃ n, M.lookup [47] = some n) (hM : M.length ≤ 1000000) (who s : ByteArray) (p : List UInt8) (hp : s.data.toList = p) (hs : p.length ≤ 100000) (A : Option Addr) (k cap : Nat) (m c : Int) (hcc : writeC M who p k m = c) (hc : c ≠ 0) :
    Calls Tryz.prog 25 #[.pointer (some ⟨tb, 0, none⟩), .string who, .string s, .slice A k cap, .int .i64 m] w fun e w' => e = .returned (.int .i64 c) ∧ TG w0 w' tb mb M ∧ Keep w w' := by
  subst hcc
  exact (write_no w tb mb M h.ts ht hM who s p hp hs A k cap m hc).mono (fun e w' hh => ⟨hh.1, h.below hh.2, Keep.below hh.2⟩)
theorem g_write_put (h : TG w0 w tb mb M) (ht : ∃ n, M.lookup [47] = some n) (who s : ByteArray) (hw : who.size ≤ 1000000) (p : List UInt8) (hp : s.data.toList = p) (hs : p.length ≤ 100000) (A : Option Addr) (l : List UInt8) (k cap : Nat) (hk : l.length = k) (hr : RB w w.heap.size A l cap) (m : Int) (hc : writeC M who p k m = 0) (hl : M.lookup p = none) :
    Calls Tryz.prog 25 #[.pointer (some ⟨tb, 0, none⟩), .string who, .string s, .slice A k cap, .int .i64 m] w fun e w' => e = .returned (.int .i64 0) ∧ ∃ b v, TG w0 w' tb mb (M ++ [(p, ⟨b, false, who, m.toNat, v⟩)]) ∧ OwnB w' 0 5 v l := by
  exact (write_put w tb mb M h.ts ht who s hw p hp hs A l k cap hk hr m hc hl).mono (fun e w' hh => ⟨hh.1, h.put hh.2⟩)
theorem g_chmod_no (h : TG w0 w tb mb M) (who s : ByteArray) (p : List UInt8) (hp : s.data.toList = p) (hs : p.length ≤ 100000) (m c : Int) (hcc : chmodR M who p m = (c, none)) :
    Calls Tryz.prog 19 #[.pointer (some ⟨tb, 0, none⟩), .string who, .string s, .int .i64 m] w fun e w' => e = .returned (.int .i64 c) ∧ TG w0 w' tb mb M ∧ Keep w w' := by
  refine (chmod_any w tb mb M h.ts.tr who s p hp hs m).mono (fun e w' hh => ?_)
  rw [hcc] at hh
  obtain ⟨he, w1, hb, rfl⟩ := hh
  exact ⟨he, h.below hb, Keep.below hb⟩
theorem g_chmod_ok (h : TG w0 w tb mb M) (who s : ByteArray) (p : List UInt8) (hp : s.data.toList = p) (hs : p.length ≤ 100000) (m : Nat) (hm : m < 64) (n : Nd) (hcc : chmodR M who p m = (0, some n)) (hin : (p, n) ∈ M) :
    Calls Tryz.prog 19 #[.pointer (some ⟨tb, 0, none⟩), .string who, .string s, .int .i64 m] w fun e w' => e = .returned (.int .i64 0) ∧ TG w0 w' tb mb (turn p (fun x => { x with mode := m }) M) ∧ Keep w w' := by
  refine (chmod_any w tb mb M h.ts.tr who s p hp hs m).mono (fun e w' hh => ?_)
  rw [hcc] at hh
  obtain ⟨he, w1, hb, rfl⟩ := hh
  have h1 := h.below hb
  have hg : w1.grownBy (turned w1 m (some n)) (some n.blk) := grownC_set _ _ _ _
  refine ⟨he, ⟨h1.ts.mode hin m hm, none_of h1.gr hg (h.b3 _ _ hin), h.b1, h.b2, b3_turn h.b3 _ (fun _ => rfl)⟩, (Keep.below hb).trans fun v l ho => ?_⟩
  exact World.ownsRow.kept ho hg (.inr (ho.ne_cells (h1.ts.tr.nodes _ _ hin).1 (by decide)))
theorem g_give_ok (h : TG w0 w tb mb M) (who s o : ByteArray) (p : List UInt8) (hp : s.data.toList = p) (hs : p.length ≤ 100000) (ho : o.size ≤ 1000000) (n : Nd) (hcc : giveR M who p = (0, some n)) (hin : (p, n) ∈ M) :
    Calls Tryz.prog 21 #[.pointer (some ⟨tb, 0, none⟩), .string who, .string s, .string o] w fun e w' => e = .returned (.int .i64 0) ∧ TG w0 w' tb mb (turn p (fun x => { x with owner := o }) M) ∧ Keep w w' := by
  refine (give_any w tb mb M h.ts.tr who s o p hp hs ho).mono (fun e w' hh => ?_)
  rw [hcc] at hh
  obtain ⟨he, w1, hb, rfl⟩ := hh
  have h1 := h.below hb
  have hg : w1.grownBy (given w1 o (some n)) (some n.blk) := grownC_set _ _ _ _
  refine ⟨he, ⟨h1.ts.owner hin o, none_of h1.gr hg (h.b3 _ _ hin), h.b1, h.b2, b3_turn h.b3 _ (fun _ => rfl)⟩, (Keep.below hb).trans fun v l ho => ?_⟩
  exact World.ownsRow.kept ho hg (.inr (ho.ne_cells (h1.ts.tr.nodes _ _ hin).1 (by decide)))
theorem g_read_no (h : TG w0 w tb mb M) (who s : ByteArray) (p : List UInt8) (hp : s.data.toList = p) (hs : p.length ≤ 100000) (c : Int) (hcc : readR M who p = (none, c)) :
    Calls Tryz.prog 66 #[.pointer (some ⟨tb, 0, none⟩), .string who, .string s] w fun e w' => e = .returned (.tuple #[.slice none 0 0, .int .i64 c]) ∧ TG w0 w' tb mb M ∧ Keep w w' := by
  refine (read_any w tb mb M h.ts who s p hp hs).mono (fun e w' hh => ?_)
  rw [hcc] at hh
  exact ⟨hh.2, h.below hh.1, Keep.below hh.1⟩
theorem g_read_ok (h : TG w0 w tb mb M) (who s : ByteArray) (p : List UInt8) (hp : s.data.toList = p) (hs : p.length ≤ 100000) (n : Nd) (hcc : readR M who p = (some n, 0)) {l : List UInt8} (hl : OwnB w 0 5 n.data l) (k : Nat) (hk : l.length = k) :
    Calls Tryz.prog 66 #[.pointer (some ⟨tb, 0, none⟩), .string who, .string s] w fun e w' => ∃ A c, e = .returned (.tuple #[.slice A k c, .int .i64 0]) ∧ OwnB w' 0 5 (.slice A k c) l ∧ TG w0 w' tb mb M ∧ Keep w w' := by
  subst hk
  refine (read_any w tb mb M h.ts who s p hp hs).mono (fun e w' hh => ?_)
  rw [hcc] at hh
  obtain ⟨hb, A, c, l', h1, h2, h3⟩ := hh
  have he := h1.uniq hl
  subst he
  exact ⟨A, c, h2, OwnB.base_ h3 (Nat.zero_le _), h.below hb, Keep.below hb⟩
end
end Go.Proofs.YtlkchajkhplapaaGreatDoor
namespace Go.Proofs.YtlkchajkhplapaaGreatDoor
open Go.RowKit Go.Maps Go.WideMaps

/-- A path of one name. -/
structure One (p : List UInt8) : Prop where
  ok : pathOk p = true
  ah : aheads p = [[47]]
  par : parOf p = [47]
  ne : p ≠ [47]
  len : p.length ≤ 100
  name : ∃ q, p = 47 :: q ∧ (47 : UInt8) ∉ q
def topN (b : Nat) (v : Value) : Nd := ⟨b, true, rootB, 61, v⟩
def Flat (M : List (List UInt8 × Nd)) (ps : List (List UInt8)) : Prop :=
  ∃ b v fs, M = ([47], topN b v) :: fs ∧ keysM fs = ps ∧ (∀ p ∈ ps, One p) ∧ ∀ q ∈ fs, q.2.owner.size ≤ 1000000
section
variable {M : List (List UInt8 × Nd)} {ps : List (List UInt8)} {p : List UInt8}
theorem Flat.top (h : Flat M ps) : ∃ b v, M.lookup [47] = some (topN b v) := by
  obtain ⟨b, v, fs, rfl, -⟩ := h
  exact ⟨b, v, by rw [List.lookup_cons_self]⟩
theorem Flat.top' (h : Flat M ps) : ∃ n, M.lookup [47] = some n := by
  obtain ⟨b, v, h⟩ := h.top
  exact ⟨_, h⟩
theorem Flat.len (h : Flat M ps) : M.length = ps.length + 1 := by
  obtain ⟨b, v, fs, rfl, rfl, -⟩ := h
  unfold keysM
  rw [List.length_cons, List.length_map]
theorem Flat.keys (h : Flat M ps) : keysM M = [47] :: ps := by
  obtain ⟨b, v, fs, rfl, rfl, -⟩ := h
  rfl
theorem Flat.come (h : Flat M ps) (hp : One p) : (comeR M rootB p).2 = 0 := by
  obtain ⟨b, v, ht⟩ := h.top
  have hc : comeE M rootB (aheads p) = 0 := by
    rw [hp.ah, comeE, ht]
    rfl
  unfold comeR
  rw [if_neg (by rw [hp.ok]; decide), if_pos hc]
theorem Flat.out (h : Flat M ps) (hp : One p) (hn : p ∉ ps) : M.lookup p = none := by
  cases hl : M.lookup p with
  | none => rfl
  | some n =>
    have h1 : p ∈ keysM M := mem_keysM.2 ⟨n, lookup_in hl⟩
    rw [h.keys, List.mem_cons] at h1
    exact (h1.elim (fun e => absurd e hp.ne) (fun e => absurd e hn))
theorem Flat.at_ (h : Flat M ps) (hn : p ∈ ps) : ∃ n, M.lookup p = some n := by
  cases hl : M.lookup p with
  | some n => exact ⟨n, rfl⟩
  | none =>
    have h1 := lookup_out hl
    rw [h.keys] at h1
    exact absurd (List.mem_cons_of_mem _ hn) h1
theorem Flat.add (h : Flat M ps) (hp : One p) : addC M rootB p = if 63 ≤ ps.length then 2 else 0 := by
  obtain ⟨b, v, ht⟩ := h.top
  have : addC M rootB p = if mayOk rootB 2 (topN b v).owner (topN b v).mode = false then 114 else if 64 ≤ M.length then 2 else 0 := addC_of (by rw [hp.par]; exact ht)
  rw [this, if_neg (show ¬ mayOk rootB 2 (topN b v).owner (topN b v).mode = false by rw [show mayOk rootB 2 (topN b v).owner (topN b v).mode = true from rfl]; decide), h.len]
  by_cases h1 : 63 ≤ ps.length
  · rw [if_pos h1, if_pos (by omega)]
  · rw [if_neg h1, if_neg (by omega)]
theorem Flat.mkdir (h : Flat M ps) (hp : One p) (hn : p ∉ ps) (m : Int) (hm : 0 ≤ m ∧ m ≤ 63) : mkdirC M rootB p m = if 63 ≤ ps.length then 2 else 0 := by
  unfold mkdirC
  rw [h.come hp, if_neg (by decide), if_neg (by simpa using hm), h.out hp hn]
  exact h.add hp
theorem Flat.write (h : Flat M ps) (hp : One p) (hn : p ∉ ps) (k : Nat) (hk : k ≤ 1000) (m : Int) (hm : 0 ≤ m ∧ m ≤ 63) : writeC M rootB p k m = if 63 ≤ ps.length then 2 else 0 := by
  unfold writeC
  rw [h.come hp, if_neg (by decide), if_neg (by simpa using hm), if_neg (by omega), h.out hp hn]
  exact h.add hp
theorem Flat.remove (h : Flat M ps) (hp : One p) (hn : p ∈ ps) : removeC M rootB p = 0 := by
  obtain ⟨b, v, ht⟩ := h.top
  obtain ⟨n, hl⟩ := h.at_ hn
  unfold removeC
  rw [h.come hp, if_neg (by decide), if_neg hp.ne, hl, hp.par, ht]
  rfl
theorem Flat.noKid (h : Flat M ps) (hp : p ≠ [47]) : NoKid M p := by
  intro q n hq hq0
  have h1 : q ∈ keysM M := mem_keysM.2 ⟨n, hq⟩
  rw [h.keys, List.mem_cons] at h1
  obtain ⟨b, v, fs, rfl, rfl, h2, -⟩ := h
  have h3 := h2 q (h1.resolve_left hq0)
  obtain ⟨r, hr, hr2⟩ := h3.name
  refine ⟨by have := h3.len; omega, [], r, hr, hr2, ?_⟩
  rw [hr]
  exact fun e => hp (e.symm.trans rfl)
theorem Flat.put (h : Flat M ps) (hp : One p) (n : Nd) (hn : n.owner.size ≤ 1000000) : Flat (M ++ [(p, n)]) (ps ++ [p]) := by
  obtain ⟨b, v, fs, rfl, rfl, h2, h3⟩ := h
  refine ⟨b, v, fs ++ [(p, n)], rfl, by unfold keysM; rw [List.map_append]; rfl, fun q hq => ?_, fun q hq => ?_⟩
  · rcases List.mem_append.1 hq with hq | hq
    · exact h2 q hq
    · rw [List.mem_singleton.1 hq]; exact hp
  · rcases List.mem_append.1 hq with hq | hq
    · exact h3 q hq
    · rw [List.mem_singleton.1 hq]; exact hn
theorem Flat.del (h : Flat M ps) (hp : p ≠ [47]) : Flat (withoutM M p) (ps.filter fun x => decide (x ≠ p)) := by
  obtain ⟨b, v, fs, rfl, rfl, h2, h3⟩ := h
  refine ⟨b, v, withoutM fs p, ?_, ?_, fun q hq => h2 q (List.mem_filter.1 hq).1, fun q hq => h3 q (List.mem_filter.1 hq).1⟩
  · unfold withoutM
    rw [List.filter_cons_of_pos (by simpa using fun e => hp e.symm)]
  · unfold keysM withoutM
    rw [List.filter_map]
    rfl
theorem Flat.short (h : Flat M ps) : Short M := by
  intro q n hq
  obtain ⟨b, v, fs, rfl, rfl, h2, h3⟩ := h
  rcases List.mem_cons.1 hq with e | hq
  · cases e; exact ⟨by simp, show rootB.size ≤ 1000000 by decide⟩
  · exact ⟨by have := (h2 q (mem_keysM.2 ⟨n, hq⟩)).len; omega, h3 _ hq⟩
end
/-- The paths that the law makes. -/
def pf (i : Nat) : List UInt8 := [47, 102, UInt8.ofNat (97 + i / 26), UInt8.ofNat (97 + i % 26)]
theorem one_of {p : List UInt8} (h : (pathOk p && decide (aheads p = [[47]]) && decide (parOf p = [47]) && decide (p ≠ [47]) && decide (p.length ≤ 100) && decide (p.head? = some 47) && decide ((47 : UInt8) ∉ p.tail)) = true) : One p := by
  simp only [Bool.and_eq_true, decide_eq_true_eq] at h
  obtain ⟨⟨⟨⟨⟨⟨h1, h2⟩, h3⟩, h4⟩, h5⟩, h6⟩, h7⟩ := h
  refine ⟨h1, h2, h3, h4, h5, ?_⟩
  cases p with
  | nil => cases h6
  | cons x q => injection h6 with h6; subst h6; exact ⟨q, rfl, h7⟩
theorem pf_one {i : Nat} (h : i < 72) : One (pf i) := one_of ((by decide +kernel : ∀ i : Fin 72, (pathOk (pf i) && decide (aheads (pf i) = [[47]]) && decide (parOf (pf i) = [47]) && decide (pf i ≠ [47]) && decide ((pf i).length ≤ 100) && decide ((pf i).head? = some 47) && decide ((47 : UInt8) ∉ (pf i).tail)) = true) ⟨i, h⟩)
theorem pf_ne {i j : Nat} (h : i < 72) (hj : j < 63) (hij : j < i) : pf j ≠ pf i := (by decide +kernel : ∀ i : Fin 72, ∀ j : Fin 63, j.val < i.val → pf j ≠ pf i) ⟨i, h⟩ ⟨j, hj⟩ hij
def pfs (k : Nat) : List (List UInt8) := (List.range k).map pf
theorem pfs_out {i k : Nat} (h : i < 72) (hk : k ≤ 63) (hki : k ≤ i) : pf i ∉ pfs k := by
  intro hm
  obtain ⟨j, hj, e⟩ := List.mem_map.1 hm
  have := List.mem_range.1 hj
  exact pf_ne h (by omega) (by omega) e
theorem pfs_succ (k : Nat) : pfs (k + 1) = pfs k ++ [pf k] := by
  unfold pfs
  rw [List.range_succ, List.map_append]
  rfl
theorem pfs_len (k : Nat) : (pfs k).length = k := by simp [pfs]
def pX : List UInt8 := [47, 120]
def pY : List UInt8 := [47, 121]
def pA : List UInt8 := [47, 102, 97, 97]
theorem oneX : One pX := one_of (by kernel_rfl)
theorem oneY : One pY := one_of (by kernel_rfl)
theorem oneA : One pA := one_of (by kernel_rfl)
theorem outX : pX ∉ pfs 63 := by decide +kernel
theorem inA : pA ∈ pfs 63 := by decide +kernel
def rest62 : List (List UInt8) := (pfs 63).filter fun x => decide (x ≠ pA)
theorem rest_len : rest62.length = 62 := by decide +kernel
theorem outX2 : pX ∉ rest62 := by decide +kernel
theorem outY2 : pY ∉ rest62 ++ [pX] := by decide +kernel
end Go.Proofs.YtlkchajkhplapaaGreatDoor
