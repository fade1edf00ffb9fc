/- What root makes with modes that let others do nothing, and what a stranger can't do. -/
import Derived.Test.YtjonnamemmleiaaGreatDoorTsg
namespace Go.Proofs.YtjonnamemmleiaaGreatDoor
open Go.RowKit Go.Maps Go.WideMaps

/-- All is root's, and no mode (q: not the top's either) lets others read or write. -/
structure StrM (q : Prop) (M : List (List UInt8 × Nd)) : Prop where
  top : ∃ n, M.lookup [47] = some n
  all : ∀ p n, (p, n) ∈ M → n.owner = rootB ∧ (p ≠ [47] ∨ q → n.mode &&& 6 = 0) ∧ p.length ≤ 1000000
  len : M.length ≤ 64
def eveB : ByteArray := ⟨#[101, 118, 101]⟩
theorem StrM.short {q : Prop} {M : List (List UInt8 × Nd)} (h : StrM q M) : Short M := fun p n hp => ⟨(h.all p n hp).2.2, by rw [(h.all p n hp).1]; decide⟩
theorem StrM.new (b : Nat) (v : Value) : StrM False [([47], ⟨b, true, rootB, 61, v⟩)] := ⟨⟨_, rfl⟩, fun p n hp => by rw [List.mem_singleton] at hp; cases hp; exact ⟨rfl, fun h => absurd rfl (h.resolve_right id), by simp⟩, by simp⟩
theorem StrM.shut {q : Prop} {M : List (List UInt8 × Nd)} (h : StrM q M) : StrM True (turn [47] (fun x => { x with mode := 57 }) M) := by
  obtain ⟨t, ht⟩ := h.top
  refine ⟨?_, fun q k hq => ?_, ?_⟩
  · rw [lookup_turn, ht, if_pos rfl]; exact ⟨_, rfl⟩
  · obtain ⟨m, hm1, ⟨_, rfl⟩ | ⟨e, rfl⟩⟩ := mem_turn hq
    · exact ⟨(h.all q m hm1).1, fun _ => (by decide : 57 &&& 6 = 0), (h.all q m hm1).2.2⟩
    · exact ⟨(h.all q k hm1).1, fun _ => (h.all q k hm1).2.1 (.inl e), (h.all q k hm1).2.2⟩
  · have := congrArg List.length (keys_turn [47] (fun x => { x with mode := 57 }) M)
    unfold keysM at this
    rw [List.length_map, List.length_map] at this
    rw [this]; exact h.len
theorem and56 (k : Int) : ∃ x : Nat, x ≤ 63 ∧ x &&& 6 = 0 ∧ bits .and .i64 k 56 = (x : Int) := by
  refine ⟨(BitVec.ofInt 64 k).toNat &&& 56, Nat.le_trans Nat.and_le_right (by omega), by rw [Nat.and_assoc, show 56 &&& 6 = 0 from rfl, Nat.and_zero], ?_⟩
  have hb : (BitVec.ofInt 64 (56 : Int)).toNat = 56 := by decide
  have hm : ((BitVec.ofInt 64 k).toNat &&& 56) ≤ 56 := Nat.and_le_right
  show IntKind.i64.wrap (((BitVec.ofInt 64 k &&& BitVec.ofInt 64 (56 : Int)).toNat : Nat) : Int) = _
  rw [BitVec.toNat_and, hb, IntKind.wrap_i64]
  omega
theorem no_bit {m b : Nat} (h : m &&& 6 = 0) (hb : 6 &&& b = b) : m &&& b = 0 := by
  rw [← hb, ← Nat.and_assoc, h, Nat.zero_and]
theorem eve_no {n : Nd} (h : n.owner = rootB) (h6 : n.mode &&& 6 = 0) : mayOk eveB 2 n.owner n.mode = false ∧ mayOk eveB 4 n.owner n.mode = false := by
  unfold mayOk
  rw [h, decide_eq_false (by decide : ¬ eveB = rootB), if_neg (by decide), no_bit h6 (by decide), if_neg (by decide), no_bit h6 (by decide)]
  exact ⟨rfl, rfl⟩
section
variable {M : List (List UInt8 × Nd)} {p : List UInt8}
theorem StrM.lk (h : StrM True M) {q : List UInt8} {n : Nd} (hl : M.lookup q = some n) : mayOk eveB 2 n.owner n.mode = false ∧ mayOk eveB 4 n.owner n.mode = false := eve_no (h.all _ _ (lookup_in hl)).1 ((h.all _ _ (lookup_in hl)).2.1 (.inr trivial))
theorem StrM.addE (h : StrM True M) (hc : (comeR M eveB p).2 = 0) (hn : M.lookup p = none) : addC M eveB p = 114 := by
  obtain ⟨a, b, n, hab, hb, hpo, hl, -⟩ := parent_in hc h.top hn
  rw [addC_of hl, if_pos (h.lk hl).1]
theorem StrM.removeE (h : StrM True M) : removeC M eveB p ≠ 0 := by
  unfold removeC
  by_cases hc : (comeR M eveB p).2 ≠ 0
  · rw [if_pos hc]; exact hc
  rw [if_neg hc]
  by_cases h1 : p = [47]
  · rw [if_pos h1]; decide
  rw [if_neg h1]
  cases hl : M.lookup p with
  | none => simp
  | some n =>
    cases hd : M.lookup (parOf p) with
    | none => simp
    | some d => simp only; rw [if_pos (h.lk hd).1]; decide
theorem StrM.mkdirE (h : StrM True M) (m : Int) : mkdirC M eveB p m ≠ 0 := by
  unfold mkdirC
  by_cases hc : (comeR M eveB p).2 ≠ 0
  · rw [if_pos hc]; exact hc
  rw [if_neg hc]
  by_cases h1 : ¬ (0 ≤ m ∧ m ≤ 63)
  · rw [if_pos h1]; decide
  rw [if_neg h1]
  cases hl : M.lookup p with
  | some n => simp
  | none => simp only; rw [h.addE (Classical.byContradiction hc) hl]; decide
theorem StrM.writeE (h : StrM True M) (k : Nat) (m : Int) : writeC M eveB p k m ≠ 0 := by
  unfold writeC
  by_cases hc : (comeR M eveB p).2 ≠ 0
  · rw [if_pos hc]; exact hc
  rw [if_neg hc]
  by_cases h1 : ¬ (0 ≤ m ∧ m ≤ 63)
  · rw [if_pos h1]; decide
  rw [if_neg h1]
  by_cases h2 : 1000 < k
  · rw [if_pos h2]; decide
  rw [if_neg h2]
  cases hl : M.lookup p with
  | none => simp only; rw [h.addE (Classical.byContradiction hc) hl]; decide
  | some n =>
    simp only
    by_cases hd : n.dir = true
    · rw [if_pos hd]; decide
    · rw [if_neg hd, if_pos (h.lk hl).1]; decide
theorem StrM.chmodE (h : StrM True M) (m : Int) : ∃ c, chmodR M eveB p m = (c, none) := by
  unfold chmodR
  by_cases hc : (comeR M eveB p).2 ≠ 0
  · rw [if_pos hc]; exact ⟨_, rfl⟩
  rw [if_neg hc]
  by_cases h1 : ¬ (0 ≤ m ∧ m ≤ 63)
  · rw [if_pos h1]; exact ⟨_, rfl⟩
  rw [if_neg h1]
  cases hl : M.lookup p with
  | none => exact ⟨_, rfl⟩
  | some n =>
    simp only
    rw [if_pos ⟨by decide, by rw [(h.all _ _ (lookup_in hl)).1]; decide⟩]
    exact ⟨_, rfl⟩
theorem giveE (M : List (List UInt8 × Nd)) (p : List UInt8) : ∃ c, giveR M eveB p = (c, none) := by
  unfold giveR
  cases (findR M eveB p).1 with
  | none => exact ⟨_, rfl⟩
  | some n => simp only; rw [if_pos (by decide)]; exact ⟨_, rfl⟩
theorem StrM.readE (h : StrM True M) : ∃ c, c ≠ 0 ∧ readR M eveB p = (none, c) := by
  unfold readR
  rcases findR_cases M eveB p with ⟨c, h0, hf⟩ | ⟨n, hin, hf⟩
  · rw [hf]; exact ⟨c, h0, rfl⟩
  · rw [hf]
    simp only
    by_cases hd : n.dir = true
    · rw [if_pos hd]; exact ⟨113, by decide, rfl⟩
    · rw [if_neg hd, if_pos (eve_no (h.all _ _ hin).1 ((h.all _ _ hin).2.1 (.inr trivial))).2]; exact ⟨114, by decide, rfl⟩
theorem StrM.put {Q : Prop} (h : StrM Q M) (n : Nd) (hl : M.lookup p = none) (hlen : M.length < 64) (hn : n.owner = rootB ∧ n.mode &&& 6 = 0) (hp : p.length ≤ 1000000) : StrM Q (M ++ [(p, n)]) := by
  obtain ⟨t, ht⟩ := h.top
  refine ⟨⟨t, ?_⟩, fun q k hq => ?_, by rw [List.length_append]; simp; omega⟩
  · rw [lookup_app M p [47] n hl, if_neg (fun e => by rw [e, hl] at ht; cases ht), ht]
  · rcases List.mem_append.1 hq with hq | hq
    · exact h.all q k hq
    · rw [List.mem_singleton] at hq
      cases hq
      exact ⟨hn.1, fun _ => hn.2, hp⟩
theorem StrM.turn {Q : Prop} (h : StrM Q M) (f : Nd → Nd) (ho : ∀ n, (f n).owner = n.owner) (hm : ∀ n, (f n).mode = n.mode) : StrM Q (turn p f M) := by
  obtain ⟨t, ht⟩ := h.top
  refine ⟨?_, fun q k hq => ?_, ?_⟩
  · rw [lookup_turn, ht]
    by_cases e : [47] = p
    · rw [if_pos e]; exact ⟨_, rfl⟩
    · rw [if_neg e]; exact ⟨_, rfl⟩
  · obtain ⟨m, hm1, ⟨_, rfl⟩ | ⟨_, rfl⟩⟩ := mem_turn hq
    · exact ⟨by rw [ho]; exact (h.all q m hm1).1, by rw [hm]; exact (h.all q m hm1).2.1, (h.all q m hm1).2.2⟩
    · exact h.all q k hm1
  · have := congrArg List.length (keys_turn p f M)
    unfold keysM at this
    rw [List.length_map, List.length_map] at this
    rw [this]; exact h.len
theorem add_lt {who : ByteArray} (hc : (comeR M who p).2 = 0) (ht : ∃ n, M.lookup [47] = some n) (hn : M.lookup p = none) (h0 : addC M who p = 0) : M.length < 64 := by
  obtain ⟨a, b, n, hab, hb, hpo, hl, -⟩ := parent_in hc ht hn
  rw [addC_of hl] at h0
  by_cases h1 : mayOk who 2 n.owner n.mode = false
  · rw [if_pos h1] at h0; cases h0
  rw [if_neg h1] at h0
  by_cases h2 : 64 ≤ M.length
  · rw [if_pos h2] at h0; cases h0
  · omega
end

/-! The calls. -/
section
variable {w0 w : World} {tb mb : Nat} {M : List (List UInt8 × Nd)}
theorem r_mkdir (h : TG w0 w tb mb M) (hS : StrM False M) (s : ByteArray) (hs : s.size ≤ 300) (x : Nat) (hx : x ≤ 63) (h6 : x &&& 6 = 0) :
    Calls Tryz.prog 23 #[.pointer (some ⟨tb, 0, none⟩), .string ⟨#[114, 111, 111, 116]⟩, .string s, .int .i64 x] w fun e w' => ∃ c M', e = .returned (.int .i64 c) ∧ TG w0 w' tb mb M' ∧ StrM False M' := by
  have hsl : s.data.toList.length ≤ 300 := hs
  by_cases hc : mkdirC M rootB s.data.toList x = 0
  · have hl : M.lookup s.data.toList = none ∧ M.length < 64 := by
      unfold mkdirC at hc
      by_cases h1 : (comeR M rootB s.data.toList).2 ≠ 0
      · rw [if_pos h1] at hc; exact absurd hc h1
      rw [if_neg h1, if_neg (by omega)] at hc
      cases hl : M.lookup s.data.toList with
      | some n => rw [hl] at hc; cases hc
      | none => rw [hl] at hc; exact ⟨rfl, add_lt (Classical.byContradiction h1) hS.top hl hc⟩
    refine (g_mkdir_ok h hS.top rootB s (by decide) _ rfl (by omega) x hc).mono ?_
    rintro e w' ⟨rfl, b, v, t⟩
    exact ⟨_, _, rfl, t, hS.put _ hl.1 hl.2 ⟨rfl, h6⟩ (by omega)⟩
  · exact (g_mkdir_no h hS.top (by have := hS.len; omega) rootB s _ rfl (by omega) x _ rfl hc).mono fun _ _ hh => ⟨_, M, hh.1, hh.2.1, hS⟩
theorem r_write (h : TG w0 w tb mb M) (hS : StrM False M) (s : ByteArray) (hs : s.size ≤ 300) (A : Option Addr) (l : List UInt8) (k cap : Nat) (hk : l.length = k) (hr : RB w w.heap.size A l cap) (x : Nat) (hx : x ≤ 63) (h6 : x &&& 6 = 0) :
    Calls Tryz.prog 25 #[.pointer (some ⟨tb, 0, none⟩), .string ⟨#[114, 111, 111, 116]⟩, .string s, .slice A k cap, .int .i64 x] w fun e w' => ∃ c M', e = .returned (.int .i64 c) ∧ TG w0 w' tb mb M' ∧ StrM False M' := by
  have hsl : s.data.toList.length ≤ 300 := hs
  by_cases hc : writeC M rootB s.data.toList k x = 0
  · cases hl : M.lookup s.data.toList with
    | none =>
      obtain ⟨hce, hm, hk1⟩ := writeC_zero hc
      have hlt : M.length < 64 := by
        unfold writeC at hc
        rw [hce, if_neg (by decide), if_neg (by omega), if_neg (by omega), hl] at hc
        exact add_lt hce hS.top hl hc
      refine (g_write_put h hS.top rootB s (by decide) _ rfl (by omega) A l k cap hk hr x hc hl).mono ?_
      rintro e w' ⟨rfl, b, v, t, -⟩
      exact ⟨_, _, rfl, t, hS.put _ hl hlt ⟨rfl, h6⟩ (by omega)⟩
    | some n =>
      refine (write_set w tb mb M h.ts rootB s _ rfl (by omega) A l k cap hk hr x hc n hl).mono ?_
      rintro e w' ⟨rfl, v, ho, ht, hg⟩
      exact ⟨_, _, rfl, ⟨ht, none_of h.gr hg (h.b3 _ _ (lookup_in hl)), h.b1, h.b2, b3_turn h.b3 _ (fun _ => rfl)⟩, hS.turn _ (fun _ => rfl) (fun _ => rfl)⟩
  · exact (g_write_no h hS.top (by have := hS.len; omega) rootB s _ rfl (by omega) A k cap x _ rfl hc).mono fun _ _ hh => ⟨_, M, hh.1, hh.2.1, hS⟩
theorem r_shut (h : TG w0 w tb mb M) (hS : StrM False M) :
    Calls Tryz.prog 19 #[.pointer (some ⟨tb, 0, none⟩), .string ⟨#[114, 111, 111, 116]⟩, .string ⟨#[47]⟩, .int .i64 57] w fun e w' => ∃ c M', e = .returned (.int .i64 c) ∧ TG w0 w' tb mb M' ∧ StrM True M' := by
  obtain ⟨n, hn⟩ := hS.top
  have hc : chmodR M rootB [47] (57 : Nat) = (0, some n) := by
    unfold chmodR
    have h0 : (comeR M rootB [47]).2 = 0 := rfl
    rw [h0, if_neg (by decide), if_neg (by decide), hn]
    rfl
  exact (g_chmod_ok h rootB ⟨#[47]⟩ [47] rfl (by decide) 57 (by decide) n hc (lookup_in hn)).mono fun _ _ hh => ⟨_, _, hh.1, hh.2.1, hS.shut⟩
theorem e_remove (h : TG w0 w tb mb M) (hS : StrM True M) (s : ByteArray) (hs : s.size ≤ 300) :
    Calls Tryz.prog 17 #[.pointer (some ⟨tb, 0, none⟩), .string ⟨#[101, 118, 101]⟩, .string s] w fun e w' => ∃ c, e = .returned (.int .i64 c) ∧ Below w.heap.size w w' :=
  (remove_no w tb mb M h.ts eveB s _ rfl (show s.data.toList.length ≤ 100000 from Nat.le_trans hs (by omega)) hS.removeE).mono fun _ _ hh => ⟨_, hh⟩
theorem e_mkdir (h : TG w0 w tb mb M) (hS : StrM True M) (s : ByteArray) (hs : s.size ≤ 300) (m : Int) :
    Calls Tryz.prog 23 #[.pointer (some ⟨tb, 0, none⟩), .string ⟨#[101, 118, 101]⟩, .string s, .int .i64 m] w fun e w' => ∃ c, e = .returned (.int .i64 c) ∧ Below w.heap.size w w' :=
  (mkdir_no w tb mb M h.ts hS.top (by have := hS.len; omega) eveB s _ rfl (show s.data.toList.length ≤ 100000 from Nat.le_trans hs (by omega)) m (hS.mkdirE m)).mono fun _ _ hh => ⟨_, hh⟩
theorem e_write (h : TG w0 w tb mb M) (hS : StrM True M) (s : ByteArray) (hs : s.size ≤ 300) (A : Option Addr) (k cap : Nat) (m : Int) :
    Calls Tryz.prog 25 #[.pointer (some ⟨tb, 0, none⟩), .string ⟨#[101, 118, 101]⟩, .string s, .slice A k cap, .int .i64 m] w fun e w' => ∃ c, e = .returned (.int .i64 c) ∧ Below w.heap.size w w' :=
  (write_no w tb mb M h.ts hS.top (by have := hS.len; omega) eveB s _ rfl (show s.data.toList.length ≤ 100000 from Nat.le_trans hs (by omega)) A k cap m (hS.writeE k m)).mono fun _ _ hh => ⟨_, hh⟩
theorem e_chmod (h : TG w0 w tb mb M) (hS : StrM True M) (s : ByteArray) (hs : s.size ≤ 300) (m : Int) :
    Calls Tryz.prog 19 #[.pointer (some ⟨tb, 0, none⟩), .string ⟨#[101, 118, 101]⟩, .string s, .int .i64 m] w fun e w' => ∃ c, e = .returned (.int .i64 c) ∧ Below w.heap.size w w' := by
  obtain ⟨c, hc⟩ := hS.chmodE (p := s.data.toList) m
  refine (chmod_any w tb mb M h.ts.tr eveB s _ rfl (show s.data.toList.length ≤ 100000 from Nat.le_trans hs (by omega)) m).mono ?_
  rw [hc]
  rintro e w' ⟨rfl, w1, hb, rfl⟩
  exact ⟨_, rfl, hb⟩
theorem e_give (h : TG w0 w tb mb M) (s : ByteArray) (hs : s.size ≤ 300) :
    Calls Tryz.prog 21 #[.pointer (some ⟨tb, 0, none⟩), .string ⟨#[101, 118, 101]⟩, .string s, .string ⟨#[101, 118, 101]⟩] w fun e w' => ∃ c, e = .returned (.int .i64 c) ∧ Below w.heap.size w w' := by
  obtain ⟨c, hc⟩ := giveE M s.data.toList
  refine (give_any w tb mb M h.ts.tr eveB s eveB _ rfl (show s.data.toList.length ≤ 100000 from Nat.le_trans hs (by omega)) (by decide)).mono ?_
  rw [hc]
  rintro e w' ⟨rfl, w1, hb, rfl⟩
  exact ⟨_, rfl, hb⟩
theorem e_read (h : TG w0 w tb mb M) (hS : StrM True M) (s : ByteArray) (hs : s.size ≤ 300) :
    Calls Tryz.prog 66 #[.pointer (some ⟨tb, 0, none⟩), .string ⟨#[101, 118, 101]⟩, .string s] w fun e w' => ∃ c, c ≠ 0 ∧ e = .returned (.tuple #[.slice none 0 0, .int .i64 c]) ∧ Below w.heap.size w w' := by
  obtain ⟨c, h0, hc⟩ := hS.readE (p := s.data.toList)
  refine (read_any w tb mb M h.ts eveB s _ rfl (show s.data.toList.length ≤ 100000 from Nat.le_trans hs (by omega))).mono ?_
  rw [hc]
  rintro e w' ⟨hb, rfl⟩
  exact ⟨c, h0, rfl, hb⟩
end
end Go.Proofs.YtjonnamemmleiaaGreatDoor
