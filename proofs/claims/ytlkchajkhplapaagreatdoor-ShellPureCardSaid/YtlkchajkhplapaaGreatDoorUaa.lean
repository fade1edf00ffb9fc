/- Mkdir, Write, Remove by anybody keep a Tree sound; the document's Parent. -/
import Derived.Test.YtlkchajkhplapaaGreatDoorTsl
import Derived.Test.YtlkchajkhplapaaGreatDoorTtb
import Derived.Test.YtlkchajkhplapaaGreatDoorSrt
namespace Go.Proofs.YtlkchajkhplapaaGreatDoor
open Go.RowKit Go.Maps Go.WideMaps

section
variable {w0 w : World} {tb mb : Nat} {M : List (List UInt8 × Nd)}
theorem SndM.top' (h : SndM M) : ∃ n, M.lookup [47] = some n := by
  obtain ⟨n, h1, _⟩ := h.top
  exact ⟨n, h1⟩
theorem c_mkdir (h : TG w0 w tb mb M) (hS : SndM M) (who s : ByteArray) (hw : who.size ≤ 100) (hs : s.size ≤ 300) (m : Int) :
    Calls Tryz.prog 23 #[.pointer (some ⟨tb, 0, none⟩), .string who, .string s, .int .i64 m] w fun e w' => ∃ c M', e = .returned (.int .i64 c) ∧ TG w0 w' tb mb M' ∧ SndM M' := by
  have hsl : s.data.toList.length ≤ 300 := hs
  by_cases hc : mkdirC M who s.data.toList m = 0
  · have hz : (comeR M who s.data.toList).2 = 0 ∧ M.lookup s.data.toList = none ∧ M.length < 64 := by
      unfold mkdirC at hc
      by_cases h1 : (comeR M who s.data.toList).2 ≠ 0
      · rw [if_pos h1] at hc; exact absurd hc h1
      rw [if_neg h1] at hc
      by_cases h2 : ¬ (0 ≤ m ∧ m ≤ 63)
      · rw [if_pos h2] at hc; cases hc
      rw [if_neg h2] at hc
      have h0 := Classical.byContradiction h1
      cases hl : M.lookup s.data.toList with
      | some n => rw [hl] at hc; cases hc
      | none => rw [hl] at hc; exact ⟨h0, rfl, add_lt h0 hS.top' hl hc⟩
    refine (mkdir_ok w tb mb M h.ts hS.top' who s (by omega) _ rfl (by omega) m hc).mono ?_
    rintro e w' ⟨rfl, hp⟩
    obtain ⟨b, v, t, o⟩ := h.put hp
    obtain ⟨A, c, hv, -, -⟩ := o.shape
    exact ⟨_, _, rfl, t, hS.put _ hz.1 hz.2.1 hz.2.2 hsl (show who.size ≤ 1000000 by omega) (fun _ => ⟨A, c, hv⟩)⟩
  · exact (g_mkdir_no h hS.top' (by have := hS.len; omega) who s _ rfl (by omega) m _ rfl hc).mono fun _ _ hh => ⟨_, M, hh.1, hh.2.1, hS⟩
theorem c_write (h : TG w0 w tb mb M) (hS : SndM M) (who s : ByteArray) (hw : who.size ≤ 100) (hs : s.size ≤ 300) (A : Option Addr) (l : List UInt8) (k cap : Nat) (hk : l.length = k) (hr : RB w w.heap.size A l cap) (m : Int) :
    Calls Tryz.prog 25 #[.pointer (some ⟨tb, 0, none⟩), .string who, .string s, .slice A k cap, .int .i64 m] w fun e w' => ∃ c M', e = .returned (.int .i64 c) ∧ TG w0 w' tb mb M' ∧ SndM M' := by
  have hsl : s.data.toList.length ≤ 300 := hs
  by_cases hc : writeC M who s.data.toList k m = 0
  · obtain ⟨hce, hm, hk1⟩ := writeC_zero hc
    have hc2 := hc
    unfold writeC at hc2
    rw [hce, if_neg (by decide), if_neg (by simpa using hm), if_neg (by omega)] at hc2
    cases hl : M.lookup s.data.toList with
    | none =>
      rw [hl] at hc2
      refine (write_put w tb mb M h.ts hS.top' who s (by omega) _ rfl (by omega) A l k cap hk hr m hc hl).mono ?_
      rintro e w' ⟨rfl, hp⟩
      obtain ⟨b, v, t, o⟩ := h.put hp
      exact ⟨_, _, rfl, t, hS.put _ hce hl (add_lt hce hS.top' hl hc2) hsl (show who.size ≤ 1000000 by omega) (fun e => by cases e)⟩
    | some n =>
      rw [hl] at hc2
      simp only at hc2
      have hd : n.dir = false := by
        cases hd : n.dir with
        | false => rfl
        | true => rw [if_pos hd] at hc2; cases hc2
      refine (write_set w tb mb M h.ts who s _ rfl (by omega) A l k cap hk hr m hc n hl).mono ?_
      rintro e w' ⟨rfl, v, ho, ht, hg⟩
      exact ⟨_, _, rfl, ⟨ht, none_of h.gr hg (h.b3 _ _ (lookup_in hl)), h.b1, h.b2, b3_turn h.b3 _ (fun _ => rfl)⟩, hS.data h.ts.tr.map.1.1 v hl hd⟩
  · exact (g_write_no h hS.top' (by have := hS.len; omega) who s _ rfl (by omega) A k cap m _ rfl hc).mono fun _ _ hh => ⟨_, M, hh.1, hh.2.1, hS⟩
theorem c_remove (h : TG w0 w tb mb M) (hS : SndM M) (who s : ByteArray) (hs : s.size ≤ 300) :
    Calls Tryz.prog 17 #[.pointer (some ⟨tb, 0, none⟩), .string who, .string s] w fun e w' => ∃ c M', e = .returned (.int .i64 c) ∧ TG w0 w' tb mb M' ∧ SndM M' := by
  have hsl : s.data.toList.length ≤ 300 := hs
  by_cases hc : removeC M who s.data.toList = 0
  · have h1 : s.data.toList ≠ [47] := by
      intro h1
      unfold removeC at hc
      by_cases h2 : (comeR M who s.data.toList).2 ≠ 0
      · rw [if_pos h2] at hc; exact h2 hc
      · rw [if_neg h2, if_pos h1] at hc; cases hc
    by_cases hk : kidsM M s.data.toList = []
    · exact (g_remove_ok h who s _ rfl (by omega) hc (noKid_of hS.slashed hk)).mono fun _ _ hh => ⟨_, _, hh.1, hh.2, hS.del hk h1⟩
    · exact (remove_full w tb mb M h.ts (by have := hS.len; omega) hS.slashed who s _ rfl (by omega) hc hk).mono fun _ _ hh => ⟨_, M, hh.1, h.below hh.2, hS⟩
  · exact (remove_no w tb mb M h.ts who s _ rfl (by omega) hc).mono fun _ _ hh => ⟨_, M, hh.1, h.below hh.2, hS⟩
end
end Go.Proofs.YtlkchajkhplapaaGreatDoor
namespace Go.Proofs.YtlkchajkhplapaaGreatDoor
open Go.RowKit

set_option maxRecDepth 10000 in
set_option maxHeartbeats 2000000 in
theorem refParent_any (s : ByteArray) (p a b : List UInt8) (hp : s.data.toList = p) (hab : p = a ++ 47 :: b) (hb : (47 : UInt8) ∉ b) (hs : s.size ≤ 1000000) (w : World) :
    Calls Tryz.prog 55 #[.string s] w fun e w' => e = .returned (.string ⟨(parOf p).toArray⟩) ∧ w' = w := by
  have hz : s.size = a.length + 1 + b.length := by
    have : s.size = s.data.toList.length := rfl
    rw [this, hp, hab, List.length_append, List.length_cons]; omega
  have hpl : p.length = a.length + 1 + b.length := by rw [hab, List.length_append, List.length_cons]; omega
  have HP := Lib.hid hp
  have HAB := Lib.hid hab
  have HPO := Lib.hid (parOf_eq hab hb)
  have HBN := Lib.hid hb
  have HZ := Lib.hid hz
  have HPL := Lib.hid hpl
  clear hp hab hb hpl
  go_enter Tryz.func55, Tryz.ntmps55
  go_wp2
  go_loopw [3] (fun i wr => ∃ j : Nat, i = .int .i64 j ∧ a.length ≤ j ∧ j ≤ a.length + b.length ∧ Hid (wr = w)) (fun i _ => (intOf i).toNat)
  case atStart => exact ⟨a.length + b.length, by go_num, by omega, Nat.le_refl _, rfl⟩
  case round =>
    obtain ⟨j, rfl, hj, hj2, HW⟩ := hrel
    by_cases h0 : 0 < j
    · have hji : (0 : Int) < (j : Int) := by omega
      have hjs : (j : Int) < (s.size : Int) := by omega
      have hjl : j < p.length := by rw [HPL.out]; omega
      have hg : s[j]'(by omega) = p[j] := by have := HP.out; subst this; simp [ByteArray.getElem_eq_getElem_data]
      obtain ⟨c, hc⟩ : ∃ c, c = p[j] := ⟨_, rfl⟩
      rw [← hc] at hg
      have hcj : (a ++ 47 :: b)[j]? = some c := by rw [← HAB.out, List.getElem?_eq_getElem hjl, hc]
      by_cases he : j = a.length
      · subst he
        have hc47 : c = 47 := by
          rw [List.getElem?_append_right (Nat.le_refl _)] at hcj
          simpa using hcj.symm
        subst hc47
        have HR := Lib.hid (show s.extract 0 a.length = ⟨(parOf p).toArray⟩ from by
          rw [bytes_of (ext_data s p HP.out 0 a.length), List.drop_zero, HPO.out, Nat.max_eq_left (by omega)])
        clear hc hcj
        go_wp2
        go_ret
        exact ⟨congrArg (fun x => Ending.returned (Value.string x)) HR.out, HW.out⟩
      · have hne : c ≠ 47 := by
          intro e
          rw [List.getElem?_append_right (by omega)] at hcj
          obtain ⟨d, hd⟩ : ∃ d, j - a.length = d + 1 := ⟨j - a.length - 1, by omega⟩
          rw [hd, List.getElem?_cons_succ, e] at hcj
          exact HBN.out (List.mem_of_getElem? hcj)
        have hcq : ((c.toNat : Int) == 47) = false := beq_eq_false_iff_ne.2 (fun e => hne (UInt8.toNat.inj (by show c.toNat = 47; omega)))
        have hcn : ¬ (c.toNat : Int) = 47 := fun e => hne (UInt8.toNat.inj (by show c.toNat = 47; omega))
        clear hc hcj hne
        go_wp2
        go_roundw
        case rel => exact ⟨j - 1, by go_num, by omega, by omega, HW.out⟩
        case measure => simp [intOf]; omega
    · have hji : ¬ (0 : Int) < (j : Int) := by omega
      have HR := Lib.hid (show (⟨#[47]⟩ : ByteArray) = ⟨(parOf p).toArray⟩ from by
        have ha : a = [] := List.eq_nil_of_length_eq_zero (by omega)
        rw [HPO.out, HAB.out, ha]; rfl)
      go_wp2
      go_ret
      exact ⟨congrArg (fun x => Ending.returned (Value.string x)) HR.out, HW.out⟩
end Go.Proofs.YtlkchajkhplapaaGreatDoor
namespace Go.Proofs.YtlkchajkhplapaaGreatDoor
open Go.RowKit Go.Maps Go.WideMaps

def nmT (x : List UInt8 × Nd) : List UInt8 := x.1
def ndC (x : List UInt8 × Nd) : List Value := nodeC ⟨x.1.toArray⟩ x.2.dir x.2.owner x.2.mode x.2.data
/-- The document's Tree: its nodes lie in a row of its own, their data in rows of their own. -/
structure RT (w : World) (rb : Nat) (v : Value) (N : List (List UInt8 × Nd)) : Prop where
  top : CB w rb 46 [v]
  row : RowX w 0 63 5 v (N.map ndC)
  dat : ∀ x ∈ N, ∃ l, OwnB w 0 5 x.2.data l ∧ l.length ≤ 1000000
  mode : ∀ x ∈ N, x.2.mode < 64
  up : SortN nmT N
  len : N.length ≤ 64
section
variable {w w' : World} {rb tb mb : Nat} {v : Value} {M N : List (List UInt8 × Nd)} {p : List UInt8} {n : Nd}
theorem RT.far (h : RT w rb v N) {r : Option Nat} (hg : w.grownBy w' r) (h1 : r ≠ some rb) (h2 : ∀ z, r = some z → v.ownBlock ≠ some z) (h3 : ∀ z, r = some z → ∀ dv l, OwnB w 0 5 dv l → dv.ownBlock ≠ some z) : RT w' rb v N := by
  cases r with
  | none =>
    exact ⟨h.top.kept hg, h.row.none hg, fun x hx => by
      obtain ⟨l, a, b⟩ := h.dat x hx
      exact ⟨l, a.below (below_of_none hg), b⟩, h.mode, h.up, h.len⟩
  | some z =>
    exact ⟨h.top.grown hg (fun e => h1 (by rw [e])), h.row.row hg (h2 z rfl), fun x hx => by
      obtain ⟨l, a, b⟩ := h.dat x hx
      exact ⟨l, World.ownsRow.kept a hg (.inr (h3 z rfl _ _ a)), b⟩, h.mode, h.up, h.len⟩
theorem RT.below (h : RT w rb v N) (hb : Below w.heap.size w w') : RT w' rb v N := h.far (none_of_below hb (Nat.le_refl _)) (by simp) (by simp) (by simp)
theorem RT.nodup (h : RT w rb v N) : (keysM N).Nodup := h.up.nodup
theorem look_none (h : N.lookup p = none) : atS nmT N p = none :=
  atS_none.2 fun x hx e => lookup_out h (mem_keysM.2 ⟨x.2, by rw [← e]; exact hx⟩)
theorem look_some (hs : (keysM N).Nodup) (h : N.lookup p = some n) : ∃ i, atS nmT N p = some i ∧ N[i]? = some (p, n) := by
  have hin := lookup_in h
  cases ha : atS nmT N p with
  | none => exact absurd rfl (atS_none.1 ha _ hin)
  | some i =>
    obtain ⟨x, hx, hn, -⟩ := atS_some ha
    obtain ⟨q, m⟩ := x
    obtain rfl : q = p := hn
    have := nodup_one hs hin (List.mem_of_getElem? hx)
    subst this
    exact ⟨i, rfl, hx⟩
/-- The two of one path are alike. -/
def Alike (w : World) : Option Nd → Option Nd → Prop
  | none, none => True
  | some a, some b => a.dir = b.dir ∧ a.owner = b.owner ∧ a.mode = b.mode ∧ ∃ l, OwnB w 0 5 a.data l ∧ OwnB w 0 5 b.data l
  | _, _ => False
structure Twin (w : World) (M N : List (List UInt8 × Nd)) : Prop where
  at_ : ∀ p, Alike w (M.lookup p) (N.lookup p)
  len : M.length = N.length
theorem Alike.keep {a b : Option Nd} (h : Alike w a b) (hk : Keep w w') : Alike w' a b := by
  cases a <;> cases b <;> simp only [Alike] at h ⊢
  obtain ⟨h1, h2, h3, l, h4, h5⟩ := h
  exact ⟨h1, h2, h3, l, hk _ _ h4, hk _ _ h5⟩
theorem Twin.keep (h : Twin w M N) (hk : Keep w w') : Twin w' M N := ⟨fun p => (h.at_ p).keep hk, h.len⟩
theorem Alike.some_ {b : Option Nd} (h : Alike w (some n) b) : ∃ m, b = some m ∧ n.dir = m.dir ∧ n.owner = m.owner ∧ n.mode = m.mode ∧ ∃ l, OwnB w 0 5 n.data l ∧ OwnB w 0 5 m.data l := by
  cases b with
  | none => cases h
  | some m => exact ⟨m, rfl, h⟩
theorem Alike.none_ {b : Option Nd} (h : Alike w none b) : b = none := by
  cases b with
  | none => rfl
  | some m => cases h
theorem Twin.comeE (h : Twin w M N) (who : ByteArray) : ∀ ds, comeE M who ds = comeE N who ds
  | [] => rfl
  | d :: ds => by
    have ih := h.comeE who ds
    have ha := h.at_ d
    rw [Go.Proofs.YtlkchajkhplapaaGreatDoor.comeE, Go.Proofs.YtlkchajkhplapaaGreatDoor.comeE]
    cases hm : M.lookup d with
    | none => rw [hm] at ha; rw [ha.none_]
    | some a =>
      rw [hm] at ha
      obtain ⟨b, hb, h1, h2, h3, -⟩ := ha.some_
      rw [hb]
      simp only
      rw [h1, h2, h3, ih]
theorem Twin.come (h : Twin w M N) (who : ByteArray) (p : List UInt8) : (comeR M who p).2 = (comeR N who p).2 := by
  unfold comeR
  rw [h.comeE]
  by_cases h1 : pathOk p = false
  · rw [if_pos h1, if_pos h1]
  · rw [if_neg h1, if_neg h1]
    by_cases h2 : Go.Proofs.YtlkchajkhplapaaGreatDoor.comeE N who (aheads p) = 0
    · rw [if_pos h2, if_pos h2]
    · rw [if_neg h2, if_neg h2]
theorem Twin.find (h : Twin w M N) (who : ByteArray) (p : List UInt8) : (findR M who p).2 = (findR N who p).2 ∧ Alike w (findR M who p).1 (findR N who p).1 := by
  unfold findR
  rw [h.comeE]
  by_cases h1 : pathOk p = false
  · rw [if_pos h1, if_pos h1]; exact ⟨rfl, trivial⟩
  · rw [if_neg h1, if_neg h1]
    by_cases h2 : Go.Proofs.YtlkchajkhplapaaGreatDoor.comeE N who (aheads p) = 0
    · rw [if_pos h2, if_pos h2]
      have ha := h.at_ p
      cases hm : M.lookup p with
      | none => rw [hm] at ha; rw [ha.none_]; exact ⟨rfl, trivial⟩
      | some a =>
        rw [hm] at ha
        obtain ⟨b, hb, hh⟩ := ha.some_
        rw [hb]
        exact ⟨rfl, hh⟩
    · rw [if_neg h2, if_neg h2]; exact ⟨rfl, trivial⟩
theorem Twin.addC (h : Twin w M N) (who : ByteArray) (p : List UInt8) : addC M who p = addC N who p := by
  unfold Go.Proofs.YtlkchajkhplapaaGreatDoor.addC
  have ha := h.at_ (parOf p)
  cases hm : M.lookup (parOf p) with
  | none => rw [hm] at ha; rw [ha.none_]
  | some a =>
    rw [hm] at ha
    obtain ⟨b, hb, h1, h2, h3, -⟩ := ha.some_
    rw [hb, h.len]
    simp only
    rw [h2, h3]
theorem Twin.mkdirC (h : Twin w M N) (who : ByteArray) (p : List UInt8) (m : Int) : mkdirC M who p m = mkdirC N who p m := by
  unfold Go.Proofs.YtlkchajkhplapaaGreatDoor.mkdirC
  rw [h.come, h.addC]
  have ha := h.at_ p
  cases hm : M.lookup p with
  | none => rw [hm] at ha; rw [ha.none_]
  | some a =>
    rw [hm] at ha
    obtain ⟨b, hb, -⟩ := ha.some_
    rw [hb]
theorem Twin.writeC (h : Twin w M N) (who : ByteArray) (p : List UInt8) (k : Nat) (m : Int) : writeC M who p k m = writeC N who p k m := by
  unfold Go.Proofs.YtlkchajkhplapaaGreatDoor.writeC
  rw [h.come, h.addC]
  have ha := h.at_ p
  cases hm : M.lookup p with
  | none => rw [hm] at ha; rw [ha.none_]
  | some a =>
    rw [hm] at ha
    obtain ⟨b, hb, h1, h2, h3, -⟩ := ha.some_
    rw [hb]
    simp only
    rw [h1, h2, h3]
theorem Twin.keys (h : Twin w M N) (q : List UInt8) : q ∈ keysM M ↔ q ∈ keysM N := by
  have ha := h.at_ q
  constructor
  · intro hq
    cases hm : M.lookup q with
    | none => exact absurd hq (lookup_out hm)
    | some a =>
      rw [hm] at ha
      obtain ⟨b, hb, -⟩ := ha.some_
      exact mem_keysM.2 ⟨b, lookup_in hb⟩
  · intro hq
    cases hm : M.lookup q with
    | none => rw [hm] at ha; exact absurd hq (lookup_out ha.none_)
    | some a => exact mem_keysM.2 ⟨a, lookup_in hm⟩
theorem Twin.perm (h : Twin w M N) (hm : (keysM M).Nodup) (hn : (keysM N).Nodup) : (keysM M).Perm (keysM N) := (List.perm_ext_iff_of_nodup hm hn).2 h.keys
theorem Twin.kids (h : Twin w M N) (hm : (keysM M).Nodup) (hn : (keysM N).Nodup) (d : List UInt8) : (kidsM M d).Perm (kidsM N d) := ((h.perm hm hn).filter _).map _
/-! What calls do: to the program's Tree, and to the document's. -/
inductive Act8
  | stay
  | put (p : List UInt8) (dir : Bool) (owner : ByteArray) (mode : Nat) (l : List UInt8)
  | data (p : List UInt8) (l : List UInt8)
  | mode (p : List UInt8) (m : Nat)
  | owner (p : List UInt8) (o : ByteArray)
  | del (p : List UInt8)
def DoneP (B : Nat) (w' : World) (M M' : List (List UInt8 × Nd)) : Act8 → Prop
  | .stay => M' = M
  | .put p dir owner mode l => M.lookup p = none ∧ ∃ b dv, M' = M ++ [(p, ⟨b, dir, owner, mode, dv⟩)] ∧ OwnB w' B 5 dv l
  | .data p l => ∃ dv, M' = turn p (fun x => { x with data := dv }) M ∧ OwnB w' B 5 dv l
  | .mode p m => M' = turn p (fun x => { x with mode := m }) M
  | .owner p o => M' = turn p (fun x => { x with owner := o }) M
  | .del p => M' = withoutM M p
def DoneR (B : Nat) (w' : World) (N N' : List (List UInt8 × Nd)) : Act8 → Prop
  | .stay => N' = N
  | .put p dir owner mode l => N.lookup p = none ∧ ∃ dv, InsR nmT N (p, ⟨0, dir, owner, mode, dv⟩) N' ∧ OwnB w' B 5 dv l
  | .data p l => ∃ dv, N' = turn p (fun x => { x with data := dv }) N ∧ OwnB w' B 5 dv l
  | .mode p m => N' = turn p (fun x => { x with mode := m }) N
  | .owner p o => N' = turn p (fun x => { x with owner := o }) N
  | .del p => N' = withoutM N p
theorem nodup_lookup (hs : (keysM N).Nodup) (hin : (p, n) ∈ N) : N.lookup p = some n := by
  cases h : N.lookup p with
  | none => exact absurd (mem_keysM.2 ⟨n, hin⟩) (lookup_out h)
  | some m => rw [nodup_one hs hin (lookup_in h)]
theorem perm_lookup {N' : List (List UInt8 × Nd)} (hs : (keysM N).Nodup) (hp : N'.Perm N) (q : List UInt8) : N'.lookup q = N.lookup q := by
  have hs' : (keysM N').Nodup := (List.Perm.map (fun x : List UInt8 × Nd => x.1) hp).nodup_iff.2 hs
  cases h : N.lookup q with
  | none =>
    cases h' : N'.lookup q with
    | none => rfl
    | some m => exact absurd (mem_keysM.2 ⟨m, hp.mem_iff.1 (lookup_in h')⟩) (lookup_out h)
  | some m => exact nodup_lookup hs' (hp.mem_iff.2 (lookup_in h))
theorem nodup_put (hs : (keysM N).Nodup) (hl : N.lookup p = none) : (keysM (N ++ [(p, n)])).Nodup := by
  unfold keysM at hs ⊢
  rw [List.map_append]
  refine List.nodup_append.2 ⟨hs, by simp, fun a ha b hb e => ?_⟩
  simp at hb
  subst hb
  subst e
  exact lookup_out hl ha
theorem lookup_del (N : List (List UInt8 × Nd)) (p q : List UInt8) : (withoutM N p).lookup q = if q = p then none else N.lookup q := by
  by_cases h : q = p
  · rw [if_pos h]
    cases hl : (withoutM N p).lookup q with
    | none => rfl
    | some m => exact absurd h (mem_without (lookup_in hl)).2
  · rw [if_neg h, lookup_without N p q h]
/-- The two are alike again once both have done the same. -/
theorem Twin.step {M' N' : List (List UInt8 × Nd)} {A : Act8} {B B' : Nat} (h : Twin w' M N) (hN : (keysM N).Nodup) (hM : (keysM M).Nodup) (hP : DoneP B w' M M' A) (hR : DoneR B' w' N N' A) : Twin w' M' N' := by
  cases A with
  | stay => cases hP; cases hR; exact h
  | put p dir owner mode l =>
    obtain ⟨h0, b, dv, rfl, ho⟩ := hP
    obtain ⟨h0', dv', hi, ho'⟩ := hR
    refine ⟨fun q => ?_, by rw [List.length_append, h.len, hi.perm.length_eq, List.length_append]; rfl⟩
    rw [perm_lookup (nodup_put hN h0') hi.perm, lookup_app _ _ _ _ h0, lookup_app _ _ _ _ h0']
    by_cases hq : q = p
    · rw [if_pos hq, if_pos hq]
      exact ⟨rfl, rfl, rfl, l, OwnB.base_ ho (Nat.zero_le _), OwnB.base_ ho' (Nat.zero_le _)⟩
    · rw [if_neg hq, if_neg hq]
      exact h.at_ q
  | data p l =>
    obtain ⟨dv, rfl, ho⟩ := hP
    obtain ⟨dv', rfl, ho'⟩ := hR
    refine ⟨fun q => ?_, by unfold turn; rw [List.length_map, List.length_map]; exact h.len⟩
    rw [lookup_turn, lookup_turn]
    have ha := h.at_ q
    by_cases hq : q = p
    · rw [if_pos hq, if_pos hq]
      cases hm : M.lookup q with
      | none => rw [hm] at ha; rw [ha.none_]; trivial
      | some a =>
        rw [hm] at ha
        obtain ⟨b, hb, h1, h2, h3, -⟩ := ha.some_
        rw [hb]
        exact ⟨h1, h2, h3, l, OwnB.base_ ho (Nat.zero_le _), OwnB.base_ ho' (Nat.zero_le _)⟩
    · rw [if_neg hq, if_neg hq]; exact ha
  | mode p m =>
    cases hP
    cases hR
    refine ⟨fun q => ?_, by unfold turn; rw [List.length_map, List.length_map]; exact h.len⟩
    rw [lookup_turn, lookup_turn]
    have ha := h.at_ q
    by_cases hq : q = p
    · rw [if_pos hq, if_pos hq]
      cases hm : M.lookup q with
      | none => rw [hm] at ha; rw [ha.none_]; trivial
      | some a =>
        rw [hm] at ha
        obtain ⟨b, hb, h1, h2, h3, h4⟩ := ha.some_
        rw [hb]
        exact ⟨h1, h2, rfl, h4⟩
    · rw [if_neg hq, if_neg hq]; exact ha
  | owner p o =>
    cases hP
    cases hR
    refine ⟨fun q => ?_, by unfold turn; rw [List.length_map, List.length_map]; exact h.len⟩
    rw [lookup_turn, lookup_turn]
    have ha := h.at_ q
    by_cases hq : q = p
    · rw [if_pos hq, if_pos hq]
      cases hm : M.lookup q with
      | none => rw [hm] at ha; rw [ha.none_]; trivial
      | some a =>
        rw [hm] at ha
        obtain ⟨b, hb, h1, h2, h3, h4⟩ := ha.some_
        rw [hb]
        exact ⟨h1, rfl, h3, h4⟩
    · rw [if_neg hq, if_neg hq]; exact ha
  | del p =>
    cases hP
    cases hR
    have hl : ∀ q, Alike w' ((withoutM M p).lookup q) ((withoutM N p).lookup q) := fun q => by
      rw [lookup_del, lookup_del]
      by_cases hq : q = p
      · rw [if_pos hq, if_pos hq]; trivial
      · rw [if_neg hq, if_neg hq]; exact h.at_ q
    refine ⟨hl, ?_⟩
    have hsub : ∀ X : List (List UInt8 × Nd), (keysM X).Nodup → (keysM (withoutM X p)).Nodup := fun X hX => List.Nodup.sublist (List.Sublist.map _ List.filter_sublist) hX
    have hperm : (keysM (withoutM M p)).Perm (keysM (withoutM N p)) := by
      refine (List.perm_ext_iff_of_nodup (hsub M hM) (hsub N hN)).2 fun q => ?_
      rw [without_keys, without_keys, h.keys q]
    have := hperm.length_eq
    unfold keysM at this
    rwa [List.length_map, List.length_map] at this
end
end Go.Proofs.YtlkchajkhplapaaGreatDoor
