/- What root makes with modes that let others do nothing, and what a stranger can't do. -/
import Derived.Test.YtlkchajkhplapaaGreatDoorTsg
import Derived.Deep.QuietTactic
import Derived.BigQuiet
import Derived.Test.YtlkchajkhplapaaGreatDoorTtb
namespace Go.Proofs.YtlkchajkhplapaaGreatDoor
open Go.RowKit Go.Maps Go.WideMaps

/-- All is root's, and no mode (q: not the top's either) lets others read or write. -/
structure StrM (q : Prop) (M : List (List UInt8 × Nd)) : Prop where
  top : ∃ n, M.lookup [47] = some n
  all : ∀ p n, (p, n) ∈ M → n.owner = rootB ∧ (p ≠ [47] ∨ q → n.mode &&& 6 = 0) ∧ p.length ≤ 1000000
  len : M.length ≤ 64
def eveB : ByteArray := ⟨#[101, 118, 101]⟩
theorem StrM.short {q : Prop} {M : List (List UInt8 × Nd)} (h : StrM q M) : Short M := fun p n hp => ⟨(h.all p n hp).2.2, by rw [(h.all p n hp).1]; decide⟩
theorem StrM.new (b : Nat) (v : Value) : StrM False [([47], ⟨b, true, rootB, 61, v⟩)] := ⟨⟨_, rfl⟩, fun p n hp => by rw [List.mem_singleton] at hp; cases hp; exact ⟨rfl, fun h => absurd rfl (h.resolve_right id), by simp⟩, by simp⟩
theorem StrM.shut {q : Prop} {M : List (List UInt8 × Nd)} (h : StrM q M) : StrM True (turn [47] (fun x => { x with mode := 57 }) M) := by
  obtain ⟨t, ht⟩ := h.top
  refine ⟨?_, fun q k hq => ?_, ?_⟩
  · rw [lookup_turn, ht, if_pos rfl]; exact ⟨_, rfl⟩
  · obtain ⟨m, hm1, ⟨_, rfl⟩ | ⟨e, rfl⟩⟩ := mem_turn hq
    · exact ⟨(h.all q m hm1).1, fun _ => (by decide : 57 &&& 6 = 0), (h.all q m hm1).2.2⟩
    · exact ⟨(h.all q k hm1).1, fun _ => (h.all q k hm1).2.1 (.inl e), (h.all q k hm1).2.2⟩
  · have := congrArg List.length (keys_turn [47] (fun x => { x with mode := 57 }) M)
    unfold keysM at this
    rw [List.length_map, List.length_map] at this
    rw [this]; exact h.len
theorem and56 (k : Int) : ∃ x : Nat, x ≤ 63 ∧ x &&& 6 = 0 ∧ bits .and .i64 k 56 = (x : Int) := by
  refine ⟨(BitVec.ofInt 64 k).toNat &&& 56, Nat.le_trans Nat.and_le_right (by omega), by rw [Nat.and_assoc, show 56 &&& 6 = 0 from rfl, Nat.and_zero], ?_⟩
  have hb : (BitVec.ofInt 64 (56 : Int)).toNat = 56 := by decide
  have hm : ((BitVec.ofInt 64 k).toNat &&& 56) ≤ 56 := Nat.and_le_right
  show IntKind.i64.wrap (((BitVec.ofInt 64 k &&& BitVec.ofInt 64 (56 : Int)).toNat : Nat) : Int) = _
  rw [BitVec.toNat_and, hb, IntKind.wrap_i64]
  omega
theorem no_bit {m b : Nat} (h : m &&& 6 = 0) (hb : 6 &&& b = b) : m &&& b = 0 := by
  rw [← hb, ← Nat.and_assoc, h, Nat.zero_and]
theorem eve_no {n : Nd} (h : n.owner = rootB) (h6 : n.mode &&& 6 = 0) : mayOk eveB 2 n.owner n.mode = false ∧ mayOk eveB 4 n.owner n.mode = false := by
  unfold mayOk
  rw [h, decide_eq_false (by decide : ¬ eveB = rootB), if_neg (by decide), no_bit h6 (by decide), if_neg (by decide), no_bit h6 (by decide)]
  exact ⟨rfl, rfl⟩
section
variable {M : List (List UInt8 × Nd)} {p : List UInt8}
theorem StrM.lk (h : StrM True M) {q : List UInt8} {n : Nd} (hl : M.lookup q = some n) : mayOk eveB 2 n.owner n.mode = false ∧ mayOk eveB 4 n.owner n.mode = false := eve_no (h.all _ _ (lookup_in hl)).1 ((h.all _ _ (lookup_in hl)).2.1 (.inr trivial))
theorem StrM.addE (h : StrM True M) (hc : (comeR M eveB p).2 = 0) (hn : M.lookup p = none) : addC M eveB p = 114 := by
  obtain ⟨a, b, n, hab, hb, hpo, hl, -⟩ := parent_in hc h.top hn
  rw [addC_of hl, if_pos (h.lk hl).1]
theorem StrM.removeE (h : StrM True M) : removeC M eveB p ≠ 0 := by
  unfold removeC
  by_cases hc : (comeR M eveB p).2 ≠ 0
  · rw [if_pos hc]; exact hc
  rw [if_neg hc]
  by_cases h1 : p = [47]
  · rw [if_pos h1]; decide
  rw [if_neg h1]
  cases hl : M.lookup p with
  | none => simp
  | some n =>
    cases hd : M.lookup (parOf p) with
    | none => simp
    | some d => simp only; rw [if_pos (h.lk hd).1]; decide
theorem StrM.mkdirE (h : StrM True M) (m : Int) : mkdirC M eveB p m ≠ 0 := by
  unfold mkdirC
  by_cases hc : (comeR M eveB p).2 ≠ 0
  · rw [if_pos hc]; exact hc
  rw [if_neg hc]
  by_cases h1 : ¬ (0 ≤ m ∧ m ≤ 63)
  · rw [if_pos h1]; decide
  rw [if_neg h1]
  cases hl : M.lookup p with
  | some n => simp
  | none => simp only; rw [h.addE (Classical.byContradiction hc) hl]; decide
theorem StrM.writeE (h : StrM True M) (k : Nat) (m : Int) : writeC M eveB p k m ≠ 0 := by
  unfold writeC
  by_cases hc : (comeR M eveB p).2 ≠ 0
  · rw [if_pos hc]; exact hc
  rw [if_neg hc]
  by_cases h1 : ¬ (0 ≤ m ∧ m ≤ 63)
  · rw [if_pos h1]; decide
  rw [if_neg h1]
  by_cases h2 : 1000 < k
  · rw [if_pos h2]; decide
  rw [if_neg h2]
  cases hl : M.lookup p with
  | none => simp only; rw [h.addE (Classical.byContradiction hc) hl]; decide
  | some n =>
    simp only
    by_cases hd : n.dir = true
    · rw [if_pos hd]; decide
    · rw [if_neg hd, if_pos (h.lk hl).1]; decide
theorem StrM.chmodE (h : StrM True M) (m : Int) : ∃ c, chmodR M eveB p m = (c, none) := by
  unfold chmodR
  by_cases hc : (comeR M eveB p).2 ≠ 0
  · rw [if_pos hc]; exact ⟨_, rfl⟩
  rw [if_neg hc]
  by_cases h1 : ¬ (0 ≤ m ∧ m ≤ 63)
  · rw [if_pos h1]; exact ⟨_, rfl⟩
  rw [if_neg h1]
  cases hl : M.lookup p with
  | none => exact ⟨_, rfl⟩
  | some n =>
    simp only
    rw [if_pos ⟨by decide, by rw [(h.all _ _ (lookup_in hl)).1]; decide⟩]
    exact ⟨_, rfl⟩
theorem giveE (M : List (List UInt8 × Nd)) (p : List UInt8) : ∃ c, giveR M eveB p = (c, none) := by
  unfold giveR
  cases (findR M eveB p).1 with
  | none => exact ⟨_, rfl⟩
  | some n => simp only; rw [if_pos (by decide)]; exact ⟨_, rfl⟩
theorem StrM.readE (h : StrM True M) : ∃ c, c ≠ 0 ∧ readR M eveB p = (none, c) := by
  unfold readR
  rcases findR_cases M eveB p with ⟨c, h0, hf⟩ | ⟨n, hin, hf⟩
  · rw [hf]; exact ⟨c, h0, rfl⟩
  · rw [hf]
    simp only
    by_cases hd : n.dir = true
    · rw [if_pos hd]; exact ⟨113, by decide, rfl⟩
    · rw [if_neg hd, if_pos (eve_no (h.all _ _ hin).1 ((h.all _ _ hin).2.1 (.inr trivial))).2]; exact ⟨114, by decide, rfl⟩
theorem StrM.put {Q : Prop} (h : StrM Q M) (n : Nd) (hl : M.lookup p = none) (hlen : M.length < 64) (hn : n.owner = rootB ∧ n.mode &&& 6 = 0) (hp : p.length ≤ 1000000) : StrM Q (M ++ [(p, n)]) := by
  obtain ⟨t, ht⟩ := h.top
  refine ⟨⟨t, ?_⟩, fun q k hq => ?_, by rw [List.length_append]; simp; omega⟩
  · rw [lookup_app M p [47] n hl, if_neg (fun e => by rw [e, hl] at ht; cases ht), ht]
  · rcases List.mem_append.1 hq with hq | hq
    · exact h.all q k hq
    · rw [List.mem_singleton] at hq
      cases hq
      exact ⟨hn.1, fun _ => hn.2, hp⟩
theorem StrM.turn {Q : Prop} (h : StrM Q M) (f : Nd → Nd) (ho : ∀ n, (f n).owner = n.owner) (hm : ∀ n, (f n).mode = n.mode) : StrM Q (turn p f M) := by
  obtain ⟨t, ht⟩ := h.top
  refine ⟨?_, fun q k hq => ?_, ?_⟩
  · rw [lookup_turn, ht]
    by_cases e : [47] = p
    · rw [if_pos e]; exact ⟨_, rfl⟩
    · rw [if_neg e]; exact ⟨_, rfl⟩
  · obtain ⟨m, hm1, ⟨_, rfl⟩ | ⟨_, rfl⟩⟩ := mem_turn hq
    · exact ⟨by rw [ho]; exact (h.all q m hm1).1, by rw [hm]; exact (h.all q m hm1).2.1, (h.all q m hm1).2.2⟩
    · exact h.all q k hm1
  · have := congrArg List.length (keys_turn p f M)
    unfold keysM at this
    rw [List.length_map, List.length_map] at this
    rw [this]; exact h.len
theorem add_lt {who : ByteArray} (hc : (comeR M who p).2 = 0) (ht : ∃ n, M.lookup [47] = some n) (hn : M.lookup p = none) (h0 : addC M who p = 0) : M.length < 64 := by
  obtain ⟨a, b, n, hab, hb, hpo, hl, -⟩ := parent_in hc ht hn
  rw [addC_of hl] at h0
  by_cases h1 : mayOk who 2 n.owner n.mode = false
  · rw [if_pos h1] at h0; cases h0
  rw [if_neg h1] at h0
  by_cases h2 : 64 ≤ M.length
  · rw [if_pos h2] at h0; cases h0
  · omega
end

/-! The calls. -/
section
variable {w0 w : World} {tb mb : Nat} {M : List (List UInt8 × Nd)}
theorem r_mkdir (h : TG w0 w tb mb M) (hS : StrM False M) (s : ByteArray) (hs : s.size ≤ 300) (x : Nat) (hx : x ≤ 63) (h6 : x &&& 6 = 0) :
    Calls Tryz.prog 23 #[.pointer (some ⟨tb, 0, none⟩), .string ⟨#[114, 111, 111, 116]⟩, .string s, .int .i64 x] w fun e w' => ∃ c M', e = .returned (.int .i64 c) ∧ TG w0 w' tb mb M' ∧ StrM False M' := by
  have hsl : s.data.toList.length ≤ 300 := hs
  by_cases hc : mkdirC M rootB s.data.toList x = 0
  · have hl : M.lookup s.data.toList = none ∧ M.length < 64 := by
      unfold mkdirC at hc
      by_cases h1 : (comeR M rootB s.data.toList).2 ≠ 0
      · rw [if_pos h1] at hc; exact absurd hc h1
      rw [if_neg h1, if_neg (by omega)] at hc
      cases hl : M.lookup s.data.toList with
      | some n => rw [hl] at hc; cases hc
      | none => rw [hl] at hc; exact ⟨rfl, add_lt (Classical.byContradiction h1) hS.top hl hc⟩
    refine (g_mkdir_ok h hS.top rootB s (by decide) _ rfl (by omega) x hc).mono ?_
    rintro e w' ⟨rfl, b, v, t⟩
    exact ⟨_, _, rfl, t, hS.put _ hl.1 hl.2 ⟨rfl, h6⟩ (by omega)⟩
  · exact (g_mkdir_no h hS.top (by have := hS.len; omega) rootB s _ rfl (by omega) x _ rfl hc).mono fun _ _ hh => ⟨_, M, hh.1, hh.2.1, hS⟩
theorem r_write (h : TG w0 w tb mb M) (hS : StrM False M) (s : ByteArray) (hs : s.size ≤ 300) (A : Option Addr) (l : List UInt8) (k cap : Nat) (hk : l.length = k) (hr : RB w w.heap.size A l cap) (x : Nat) (hx : x ≤ 63) (h6 : x &&& 6 = 0) :
    Calls Tryz.prog 25 #[.pointer (some ⟨tb, 0, none⟩), .string ⟨#[114, 111, 111, 116]⟩, .string s, .slice A k cap, .int .i64 x] w fun e w' => ∃ c M', e = .returned (.int .i64 c) ∧ TG w0 w' tb mb M' ∧ StrM False M' := by
  have hsl : s.data.toList.length ≤ 300 := hs
  by_cases hc : writeC M rootB s.data.toList k x = 0
  · cases hl : M.lookup s.data.toList with
    | none =>
      obtain ⟨hce, hm, hk1⟩ := writeC_zero hc
      have hlt : M.length < 64 := by
        unfold writeC at hc
        rw [hce, if_neg (by decide), if_neg (by omega), if_neg (by omega), hl] at hc
        exact add_lt hce hS.top hl hc
      refine (g_write_put h hS.top rootB s (by decide) _ rfl (by omega) A l k cap hk hr x hc hl).mono ?_
      rintro e w' ⟨rfl, b, v, t, -⟩
      exact ⟨_, _, rfl, t, hS.put _ hl hlt ⟨rfl, h6⟩ (by omega)⟩
    | some n =>
      refine (write_set w tb mb M h.ts rootB s _ rfl (by omega) A l k cap hk hr x hc n hl).mono ?_
      rintro e w' ⟨rfl, v, ho, ht, hg⟩
      exact ⟨_, _, rfl, ⟨ht, none_of h.gr hg (h.b3 _ _ (lookup_in hl)), h.b1, h.b2, b3_turn h.b3 _ (fun _ => rfl)⟩, hS.turn _ (fun _ => rfl) (fun _ => rfl)⟩
  · exact (g_write_no h hS.top (by have := hS.len; omega) rootB s _ rfl (by omega) A k cap x _ rfl hc).mono fun _ _ hh => ⟨_, M, hh.1, hh.2.1, hS⟩
theorem r_shut (h : TG w0 w tb mb M) (hS : StrM False M) :
    Calls Tryz.prog 19 #[.pointer (some ⟨tb, 0, none⟩), .string ⟨#[114, 111, 111, 116]⟩, .string ⟨#[47]⟩, .int .i64 57] w fun e w' => ∃ c M', e = .returned (.int .i64 c) ∧ TG w0 w' tb mb M' ∧ StrM True M' := by
  obtain ⟨n, hn⟩ := hS.top
  have hc : chmodR M rootB [47] (57 : Nat) = (0, some n) := by
    unfold chmodR
    have h0 : (comeR M rootB [47]).2 = 0 := rfl
    rw [h0, if_neg (by decide), if_neg (by decide), hn]
    rfl
  exact (g_chmod_ok h rootB ⟨#[47]⟩ [47] rfl (by decide) 57 (by decide) n hc (lookup_in hn)).mono fun _ _ hh => ⟨_, _, hh.1, hh.2.1, hS.shut⟩
theorem e_remove (h : TG w0 w tb mb M) (hS : StrM True M) (s : ByteArray) (hs : s.size ≤ 300) :
    Calls Tryz.prog 17 #[.pointer (some ⟨tb, 0, none⟩), .string ⟨#[101, 118, 101]⟩, .string s] w fun e w' => ∃ c, e = .returned (.int .i64 c) ∧ Below w.heap.size w w' :=
  (remove_no w tb mb M h.ts eveB s _ rfl (show s.data.toList.length ≤ 100000 from Nat.le_trans hs (by omega)) hS.removeE).mono fun _ _ hh => ⟨_, hh⟩
theorem e_mkdir (h : TG w0 w tb mb M) (hS : StrM True M) (s : ByteArray) (hs : s.size ≤ 300) (m : Int) :
    Calls Tryz.prog 23 #[.pointer (some ⟨tb, 0, none⟩), .string ⟨#[101, 118, 101]⟩, .string s, .int .i64 m] w fun e w' => ∃ c, e = .returned (.int .i64 c) ∧ Below w.heap.size w w' :=
  (mkdir_no w tb mb M h.ts hS.top (by have := hS.len; omega) eveB s _ rfl (show s.data.toList.length ≤ 100000 from Nat.le_trans hs (by omega)) m (hS.mkdirE m)).mono fun _ _ hh => ⟨_, hh⟩
theorem e_write (h : TG w0 w tb mb M) (hS : StrM True M) (s : ByteArray) (hs : s.size ≤ 300) (A : Option Addr) (k cap : Nat) (m : Int) :
    Calls Tryz.prog 25 #[.pointer (some ⟨tb, 0, none⟩), .string ⟨#[101, 118, 101]⟩, .string s, .slice A k cap, .int .i64 m] w fun e w' => ∃ c, e = .returned (.int .i64 c) ∧ Below w.heap.size w w' :=
  (write_no w tb mb M h.ts hS.top (by have := hS.len; omega) eveB s _ rfl (show s.data.toList.length ≤ 100000 from Nat.le_trans hs (by omega)) A k cap m (hS.writeE k m)).mono fun _ _ hh => ⟨_, hh⟩
theorem e_chmod (h : TG w0 w tb mb M) (hS : StrM True M) (s : ByteArray) (hs : s.size ≤ 300) (m : Int) :
    Calls Tryz.prog 19 #[.pointer (some ⟨tb, 0, none⟩), .string ⟨#[101, 118, 101]⟩, .string s, .int .i64 m] w fun e w' => ∃ c, e = .returned (.int .i64 c) ∧ Below w.heap.size w w' := by
  obtain ⟨c, hc⟩ := hS.chmodE (p := s.data.toList) m
  refine (chmod_any w tb mb M h.ts.tr eveB s _ rfl (show s.data.toList.length ≤ 100000 from Nat.le_trans hs (by omega)) m).mono ?_
  rw [hc]
  rintro e w' ⟨rfl, w1, hb, rfl⟩
  exact ⟨_, rfl, hb⟩
theorem e_give (h : TG w0 w tb mb M) (s : ByteArray) (hs : s.size ≤ 300) :
    Calls Tryz.prog 21 #[.pointer (some ⟨tb, 0, none⟩), .string ⟨#[101, 118, 101]⟩, .string s, .string ⟨#[101, 118, 101]⟩] w fun e w' => ∃ c, e = .returned (.int .i64 c) ∧ Below w.heap.size w w' := by
  obtain ⟨c, hc⟩ := giveE M s.data.toList
  refine (give_any w tb mb M h.ts.tr eveB s eveB _ rfl (show s.data.toList.length ≤ 100000 from Nat.le_trans hs (by omega)) (by decide)).mono ?_
  rw [hc]
  rintro e w' ⟨rfl, w1, hb, rfl⟩
  exact ⟨_, rfl, hb⟩
theorem e_read (h : TG w0 w tb mb M) (hS : StrM True M) (s : ByteArray) (hs : s.size ≤ 300) :
    Calls Tryz.prog 66 #[.pointer (some ⟨tb, 0, none⟩), .string ⟨#[101, 118, 101]⟩, .string s] w fun e w' => ∃ c, c ≠ 0 ∧ e = .returned (.tuple #[.slice none 0 0, .int .i64 c]) ∧ Below w.heap.size w w' := by
  obtain ⟨c, h0, hc⟩ := hS.readE (p := s.data.toList)
  refine (read_any w tb mb M h.ts eveB s _ rfl (show s.data.toList.length ≤ 100000 from Nat.le_trans hs (by omega))).mono ?_
  rw [hc]
  rintro e w' ⟨hb, rfl⟩
  exact ⟨c, h0, rfl, hb⟩
end
end Go.Proofs.YtlkchajkhplapaaGreatDoor
namespace Go.Proofs.YtlkchajkhplapaaGreatDoor
open Go.RowKit Go.Maps Go.WideMaps

theorem drewN_grown (w : World) (m : Nat) : w.grownBy (w.drewN m) none := ⟨rfl, rfl, rfl, Nat.le_refl _, fun _ _ _ => rfl⟩
/-- Two rows of nodes that are alike. -/
def Alike2 (w : World) (xs ys : List (List Value)) : Prop := ∀ (i : Nat) (c d : List Value), xs[i]? = some c → ys[i]? = some d → ∃ (path : ByteArray) (dir : Bool) (owner : ByteArray) (mode : Nat) (dv dv' : Value) (l : List UInt8), c = nodeC path dir owner mode dv ∧ d = nodeC path dir owner mode dv' ∧ OwnB w 0 5 dv l ∧ OwnB w 0 5 dv' l
set_option maxRecDepth 20000 in
set_option maxHeartbeats 4000000 in
theorem same_true (w : World) (A B : Option Addr) (n ca cb : Nat) (xs ys : List (List Value)) (hx : xs.length = n) (hy : ys.length = n) (hA : SR w w.heap.size A 5 xs ca) (hB : SR w w.heap.size B 5 ys cb) (hE : Alike2 w xs ys) :
    Calls Tryz.prog 28 #[.slice A n ca, .slice B n cb] w fun e w' => e = .returned (.bool true) ∧ w.grownBy w' none := by
  have HA := Lib.hid hA
  have HB := Lib.hid hB
  have HX := Lib.hid hx
  have HY := Lib.hid hy
  have HE := Lib.hid hE
  have hnl : n ≤ 9223372036854775807 := by have := hA.1; have := hA.2.1; unfold maxLen at this; omega
  clear hx hy hA hB hE
  go_enter Tryz.func28, Tryz.ntmps28
  go_wp2
  go_loopw [5] (fun i wr => ∃ k : Nat, i = .int .i64 k ∧ k ≤ n ∧ Hid (w.grownBy wr none)) (fun i _ => n - (intOf i).toNat)
  case atStart => exact ⟨0, rfl, Nat.zero_le _, World.grownBy.refl _ _⟩
  case round =>
    obtain ⟨k, rfl, hk, HG⟩ := hrel
    by_cases hlt : k < n
    · have hki : (k : Int) < (n : Int) := by omega
      obtain ⟨ba, oa, rfl, hba, ea⟩ := HA.out.elem (k := k) (by rw [HX.out]; exact hlt)
      obtain ⟨bb, ob, rfl, hbb, eb⟩ := HB.out.elem (k := k) (by rw [HY.out]; exact hlt)
      obtain ⟨path, dir, owner, mode, dv, dv', l, e1, e2, o1, o2⟩ := HE.out k _ _ (List.getElem?_eq_getElem (by rw [HX.out]; exact hlt)) (List.getElem?_eq_getElem (by rw [HY.out]; exact hlt))
      obtain ⟨A1, c1, rfl, -, -⟩ := o1.shape
      obtain ⟨A2, c2, rfl, -, -⟩ := o2.shape
      obtain ⟨ln, hln⟩ : ∃ ln, l.length = ln := ⟨_, rfl⟩
      rw [e1] at ea
      rw [e2] at eb
      rw [hln] at ea eb o1 o2
      have be := below_of_none HG.out
      have kv1 : ∀ m, (convert 29 9 (.slice A1 ln c1)).run Tryz.prog (wr.drewN m) = .ok (.string ⟨l.toArray⟩) (wr.drewN m) := fun m => conv_own ((o1.below be).kept (drewN_grown wr m) (by cases (Value.slice A1 ln c1).ownBlock <;> simp)) hln
      have kv2 : ∀ m, (convert 29 9 (.slice A2 ln c2)).run Tryz.prog (wr.drewN m) = .ok (.string ⟨l.toArray⟩) (wr.drewN m) := fun m => conv_own ((o2.below be).kept (drewN_grown wr m) (by cases (Value.slice A2 ln c2).ownBlock <;> simp)) hln
      rw [Nat.mul_comm 5 k] at ea eb
      have a0 : wr.cell? ⟨ba, oa + k * 5, none⟩ = some (.string path) := (be.cell (p := ⟨ba, oa + k * 5, none⟩) hba).trans (ea 0 _ rfl)
      have a1 : wr.cell? ⟨ba, oa + k * 5 + 1, none⟩ = some (.bool dir) := (be.cell (p := ⟨ba, oa + k * 5 + 1, none⟩) hba).trans (ea 1 _ rfl)
      have a2 : wr.cell? ⟨ba, oa + k * 5 + 2, none⟩ = some (.string owner) := (be.cell (p := ⟨ba, oa + k * 5 + 2, none⟩) hba).trans (ea 2 _ rfl)
      have a3 : wr.cell? ⟨ba, oa + k * 5 + 3, none⟩ = some (.int .i64 mode) := (be.cell (p := ⟨ba, oa + k * 5 + 3, none⟩) hba).trans (ea 3 _ rfl)
      have a4 : wr.cell? ⟨ba, oa + k * 5 + 4, none⟩ = some (.slice A1 ln c1) := (be.cell (p := ⟨ba, oa + k * 5 + 4, none⟩) hba).trans (ea 4 _ rfl)
      have b0 : wr.cell? ⟨bb, ob + k * 5, none⟩ = some (.string path) := (be.cell (p := ⟨bb, ob + k * 5, none⟩) hbb).trans (eb 0 _ rfl)
      have b1 : wr.cell? ⟨bb, ob + k * 5 + 1, none⟩ = some (.bool dir) := (be.cell (p := ⟨bb, ob + k * 5 + 1, none⟩) hbb).trans (eb 1 _ rfl)
      have b2 : wr.cell? ⟨bb, ob + k * 5 + 2, none⟩ = some (.string owner) := (be.cell (p := ⟨bb, ob + k * 5 + 2, none⟩) hbb).trans (eb 2 _ rfl)
      have b3 : wr.cell? ⟨bb, ob + k * 5 + 3, none⟩ = some (.int .i64 mode) := (be.cell (p := ⟨bb, ob + k * 5 + 3, none⟩) hbb).trans (eb 3 _ rfl)
      have b4 : wr.cell? ⟨bb, ob + k * 5 + 4, none⟩ = some (.slice A2 ln c2) := (be.cell (p := ⟨bb, ob + k * 5 + 4, none⟩) hbb).trans (eb 4 _ rfl)
      clear ea eb e1 e2 o1 o2 hba hbb hln be
      go_wp2
      go_quiet (fail)
      go_wp2
      go_roundw
      case rel => exact ⟨k + 1, by go_num, by omega, grown_trans' HG.out (drewN_grown wr nq)⟩
      case measure => simp [intOf]; omega
    · have hki : ¬ (k : Int) < (n : Int) := by omega
      go_wp2
      go_ret
      exact ⟨rfl, HG.out⟩

/-- Sorted keys of one map are the same keys. -/
theorem sorted_one : ∀ {a b : List (List UInt8)}, a.Perm b → SortedK a → SortedK b → a = b := by
  intro a b hp ha hb
  exact List.Perm.eq_of_pairwise (fun x y _ _ h1 h2 => List.le_antisymm h1 h2) ha hb hp
theorem listed_one {β : Type} {M : List (List UInt8 × β)} {a b : List (List UInt8)} (ha : ListedM M a) (hb : ListedM M b) : a = b := sorted_one (ha.1.trans hb.1.symm) ha.2 hb.2
/-- Two listings of one Tree, the first of which is still there, are alike. -/
theorem alike_of {w0 w1 w2 w3 : World} {b1 b2 : Nat} {M : List (List UInt8 × Nd)} {ks : List (List UInt8)} {xs ys : List (List Value)} (h1 : NodesAt w0 w1 b1 M ks ys) (h2 : NodesAt w2 w3 b2 M ks xs) (hg : Below w0.heap.size w0 w2) (hg2 : Below w1.heap.size w1 w3) : Alike2 w3 xs ys := by
  intro i c d hc hd
  have hi := (List.getElem?_eq_some_iff.1 hc).1
  rw [h2.1] at hi
  obtain ⟨n, l, dv, e1, e2, e3, rfl⟩ := h2.2 i _ c (List.getElem?_eq_getElem hi) hc
  obtain ⟨n', l', dv', f1, f2, f3, rfl⟩ := h1.2 i _ d (List.getElem?_eq_getElem hi) hd
  rw [e1] at f1
  injection f1 with f1
  subst f1
  have hl := (f2.below hg).uniq e2
  subst hl
  exact ⟨_, _, _, _, dv, dv', l', rfl, rfl, OwnB.base_ e3 (Nat.zero_le _), OwnB.base_ (f3.below hg2) (Nat.zero_le _)⟩
end Go.Proofs.YtlkchajkhplapaaGreatDoor
namespace Go.Proofs.YtlkchajkhplapaaGreatDoor
open Go.RowKit Go.Maps Go.WideMaps

theorem noKid_of {M : List (List UInt8 × Nd)} {p : List UInt8} (hs : Slashed M) (hk : kidsM M p = []) : NoKid M p := by
  intro q n hq hne
  obtain ⟨h1, a, b, hab, hb⟩ := hs q n hq hne
  refine ⟨h1, a, b, hab, hb, fun e => ?_⟩
  have hm : lastOf q ∈ kidsM M p := List.mem_map.2 ⟨q, List.mem_filter.2 ⟨mem_keysM.2 ⟨n, hq⟩, by unfold kidB; rw [decide_eq_true hne, decide_eq_true ((parOf_eq hab hb).trans e)]; rfl⟩, rfl⟩
  rw [hk] at hm
  cases hm
theorem kid_of {M : List (List UInt8 × Nd)} {p q : List UInt8} {n : Nd} (hk : kidsM M p = []) (hq : (q, n) ∈ M) (hne : q ≠ [47]) : parOf q ≠ p := by
  intro e
  have hm : lastOf q ∈ kidsM M p := List.mem_map.2 ⟨q, List.mem_filter.2 ⟨mem_keysM.2 ⟨n, hq⟩, by unfold kidB; rw [decide_eq_true hne, decide_eq_true e]; rfl⟩, rfl⟩
  rw [hk] at hm
  cases hm
set_option maxRecDepth 10000 in
set_option maxHeartbeats 4000000 in
theorem remove_full (w : World) (tb mb : Nat) (M : List (List UInt8 × Nd)) (hT : TS w tb mb M) (hlen : M.length ≤ 1000000) (hsl : Slashed M) (who s : ByteArray) (p : List UInt8) (hp : s.data.toList = p) (hs : p.length ≤ 100000) (hc : removeC M who p = 0) (hk : kidsM M p ≠ []) :
    Calls Tryz.prog 17 #[.pointer (some ⟨tb, 0, none⟩), .string who, .string s] w fun e w' => e = .returned (.int .i64 115) ∧ Below w.heap.size w w' := by
  have CA := come_any w tb mb M hT.tr who s p hp hs
  have hce : (comeR M who p).2 = 0 := by
    apply Classical.byContradiction
    intro h
    unfold removeC at hc
    rw [if_pos h] at hc
    exact h hc
  have h1 : p ≠ [47] := by
    intro h
    unfold removeC at hc
    rw [hce, if_neg (by decide), if_pos h] at hc
    cases hc
  have hsn : s ≠ ⟨#[47]⟩ := fun e => h1 (by rw [← hp, e])
  have n1 := str_ne hsn
  have n2 : (s.toList == [47]) = false := by rw [show ([47] : List UInt8) = (⟨#[47]⟩ : ByteArray).toList from by rw [ByteArray.toList_eq]]; exact n1
  obtain ⟨a, b, n, hab, hb, hpo, hn, -⟩ := parent_in' hce h1
  cases hl : M.lookup p with
  | none =>
    unfold removeC at hc
    rw [hce, if_neg (by decide), if_neg h1, hl] at hc
    cases hc
  | some n0 =>
    have hm : mayOk who 2 n.owner n.mode = true := by
      unfold removeC at hc
      rw [hce, if_neg (by decide), if_neg h1, hl, hn] at hc
      simp only at hc
      cases hm : mayOk who 2 n.owner n.mode with
      | true => rfl
      | false => rw [if_pos hm] at hc; cases hc
    rw [comeR_ok hce, hce, hl, ptrOf, vN] at CA
    have CC := Lib.hid CA
    have MC := Lib.hid (fun (W : World) (hT' : TS W tb mb M) => mayChange_any W tb mb M hT'.tr who s a b (by rw [hp, hab]) hb (show s.data.toList.length ≤ 1000000 by rw [hp]; omega) n (by rw [← hab, ← parOf_eq hab hb]; exact hn))
    rw [hm] at MC
    have HT := Lib.hid hT
    have NA := Lib.hid (fun (W : World) (hT' : TS W tb mb M) => names_any W tb mb M hT'.tr hlen hsl s)
    have HKN := Lib.hid (show ∀ ss, Named M s.data.toList ss → 0 < ss.length from fun ss hn => by
      rw [hp] at hn
      have h2 := hn.1.length_eq
      have := List.length_pos_iff.2 hk
      omega)
    clear CA hT hp hs hl hce h1 hc hsn hab hb hpo hn hm hk hsl hlen
    go_enter Tryz.func17, Tryz.ntmps17
    go_wp2_with (first
      | (go_at_call 50; refine CC.out.mono ?_; rintro e w1 ⟨rfl, hb1⟩; have HB1 := Lib.hid hb1; clear hb1)
      | (go_at_call 51; refine (MC.out _ (HT.out.below HB1.out)).mono ?_; rintro e w2 ⟨rfl, q2, hq2⟩; have HB2 := Lib.hid (show Below w.heap.size w w2 by rw [hq2]; exact HB1.out.trans ⟨rfl, rfl, rfl, Nat.le_refl _, fun _ _ => rfl⟩); clear hq2)
      | (go_at_call 52; refine (NA.out _ (HT.out.below HB2.out)).mono ?_; rintro e w3 ⟨v, ss, rfl, hnm, hown, hb3⟩; have HB3 := Lib.hid (HB2.out.trans (hb3.mono HB2.out.size))
         have hpos := HKN.out ss hnm
         obtain ⟨nn, hnn⟩ : ∃ nn, ss.length = nn := ⟨_, rfl⟩
         rw [hnn] at hpos hown
         obtain ⟨A3, c3, rfl⟩ : ∃ A3 c3, v = .slice A3 nn c3 := by
           rcases hown.2 with ⟨rfl, h0⟩ | ⟨g, cap, cur, rfl, -⟩
           · exact absurd hpos (by omega)
           · exact ⟨_, _, rfl⟩
         have hpi : (0 : Int) < (nn : Int) := by omega
         clear hb3 hnm hown hpos hnn))
    go_ret
    exact ⟨rfl, HB3.out⟩

/-! ### A sound Tree -/
theorem lookup_of_mem {M : List (List UInt8 × Nd)} (hd : (keysM M).Nodup) {p : List UInt8} {n : Nd} (h : (p, n) ∈ M) : M.lookup p = some n := by
  induction M with
  | nil => cases h
  | cons x M ih =>
    obtain ⟨q, m⟩ := x
    have hd' : q ∉ keysM M ∧ (keysM M).Nodup := List.nodup_cons.1 hd
    rw [List.lookup_cons]
    rcases List.mem_cons.1 h with e | h
    · cases e
      rw [beq_self_eq_true]
    · have hne : p ≠ q := fun e => hd'.1 (by rw [← e]; exact mem_keysM.2 ⟨n, h⟩)
      rw [beq_eq_false_iff_ne.2 hne]
      exact ih hd'.2 h
theorem lookup_without (M : List (List UInt8 × Nd)) (p q : List UInt8) (hne : q ≠ p) : (withoutM M p).lookup q = M.lookup q := by
  induction M with
  | nil => rfl
  | cons x M ih =>
    obtain ⟨r, m⟩ := x
    unfold withoutM at ih ⊢
    by_cases hr : r = p
    · rw [List.filter_cons_of_neg (by simpa using hr), ih, List.lookup_cons, beq_eq_false_iff_ne.2 (fun e => hne (e.trans hr))]
    · rw [List.filter_cons_of_pos (by simpa using hr), List.lookup_cons, List.lookup_cons, ih]
structure SndM (M : List (List UInt8 × Nd)) : Prop where
  top : ∃ n, M.lookup [47] = some n ∧ n.dir = true
  all : ∀ p n, (p, n) ∈ M → pathOk p = true ∧ p.length ≤ 300 ∧ n.owner.size ≤ 1000000 ∧ (n.dir = true → ∃ A c, n.data = .slice A 0 c)
  par : ∀ p n, (p, n) ∈ M → p ≠ [47] → ∃ m, M.lookup (parOf p) = some m ∧ m.dir = true
  len : M.length ≤ 64
section
variable {M : List (List UInt8 × Nd)} {p : List UInt8}
theorem SndM.slashed (h : SndM M) : Slashed M := fun q n hq hne => by
  obtain ⟨h1, h2, -⟩ := h.all q n hq
  obtain ⟨a, b, hab, hb, -⟩ := parent_on h1 hne
  exact ⟨by omega, a, b, hab, hb⟩
theorem SndM.short (h : SndM M) : Short M := fun q n hq => ⟨by have := (h.all q n hq).2.1; omega, (h.all q n hq).2.2.1⟩
theorem SndM.put (h : SndM M) (nd : Nd) {who : ByteArray} (hc : (comeR M who p).2 = 0) (hl : M.lookup p = none) (hlen : M.length < 64) (hp : p.length ≤ 300) (ho : nd.owner.size ≤ 1000000) (hd : nd.dir = true → ∃ A c, nd.data = .slice A 0 c) : SndM (M ++ [(p, nd)]) := by
  obtain ⟨t, ht, htd⟩ := h.top
  obtain ⟨a, b, m, hab, hb, hpo, hm, hmd⟩ := parent_in hc ⟨t, ht⟩ hl
  have hkeep : ∀ q k, M.lookup q = some k → (M ++ [(p, nd)]).lookup q = some k := fun q k hq => by
    rw [lookup_app M p q nd hl, if_neg (fun e => by rw [e, hl] at hq; cases hq), hq]
  refine ⟨⟨t, hkeep _ _ ht, htd⟩, fun q n hq => ?_, fun q n hq hne => ?_, by rw [List.length_append]; simp; omega⟩
  · rcases List.mem_append.1 hq with hq | hq
    · exact h.all q n hq
    · rw [List.mem_singleton] at hq
      cases hq
      exact ⟨(come_path hc).1, hp, ho, hd⟩
  · rcases List.mem_append.1 hq with hq | hq
    · obtain ⟨k, h1, h2⟩ := h.par q n hq hne
      exact ⟨k, hkeep _ _ h1, h2⟩
    · rw [List.mem_singleton] at hq
      cases hq
      exact ⟨m, hkeep _ _ hm, hmd⟩
theorem SndM.data (h : SndM M) (hd : (keysM M).Nodup) (v : Value) {n : Nd} (hl : M.lookup p = some n) (hn : n.dir = false) : SndM (turn p (fun x => { x with data := v }) M) := by
  obtain ⟨t, ht, htd⟩ := h.top
  have hkeep : ∀ q k, M.lookup q = some k → ∃ k', (turn p (fun x => { x with data := v }) M).lookup q = some k' ∧ k'.dir = k.dir := fun q k hq => by
    rw [lookup_turn, hq]
    by_cases e : q = p
    · rw [if_pos e]; exact ⟨_, rfl, rfl⟩
    · rw [if_neg e]; exact ⟨_, rfl, rfl⟩
  refine ⟨?_, fun q k hq => ?_, fun q k hq hne => ?_, ?_⟩
  · obtain ⟨k', h1, h2⟩ := hkeep _ _ ht
    exact ⟨k', h1, h2.trans htd⟩
  · obtain ⟨m, hm1, ⟨rfl, rfl⟩ | ⟨_, rfl⟩⟩ := mem_turn hq
    · have h1 := lookup_of_mem hd hm1
      rw [hl] at h1
      cases h1
      exact ⟨(h.all _ _ hm1).1, (h.all _ _ hm1).2.1, (h.all _ _ hm1).2.2.1, fun e => by rw [hn] at e; cases e⟩
    · exact h.all _ _ hm1
  · obtain ⟨m, hm1, -⟩ := mem_turn hq
    obtain ⟨k1, h1, h2⟩ := h.par q m hm1 hne
    obtain ⟨k', h3, h4⟩ := hkeep _ _ h1
    exact ⟨k', h3, h4.trans h2⟩
  · have := congrArg List.length (keys_turn p (fun x => { x with data := v }) M)
    unfold keysM at this
    rw [List.length_map, List.length_map] at this
    rw [this]; exact h.len
theorem SndM.del (h : SndM M) (hk : kidsM M p = []) (hne : p ≠ [47]) : SndM (withoutM M p) := by
  obtain ⟨t, ht, htd⟩ := h.top
  refine ⟨⟨t, by rw [lookup_without M p [47] (fun e => hne e.symm), ht], htd⟩, fun q n hq => h.all q n (mem_without hq).1, fun q n hq hq0 => ?_, Nat.le_trans (List.length_filter_le _ _) h.len⟩
  obtain ⟨m, h1, h2⟩ := h.par q n (mem_without hq).1 hq0
  exact ⟨m, by rw [lookup_without M p _ (kid_of hk (mem_without hq).1 hq0), h1], h2⟩
end
end Go.Proofs.YtlkchajkhplapaaGreatDoor
