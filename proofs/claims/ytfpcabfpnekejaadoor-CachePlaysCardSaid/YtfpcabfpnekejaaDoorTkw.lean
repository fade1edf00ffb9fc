/- The walks of ticket's Write, WriteAuth and WriteGrant. -/
import Derived.Test.YtfpcabfpnekejaaDoorTkb
namespace Go.Proofs.YtfpcabfpnekejaaDoor
open Go.RowKit

/-- The bytes of fields, one behind the other. -/
def bytesF (fs : List Fd) : List UInt8 := fs.flatMap fieldB
theorem joinOf_ok : ∀ (fs : List Fd) (acc : List UInt8), (∀ f ∈ fs, chk f = 0) → joinOf fs acc = (acc ++ bytesF fs, 0)
  | [], acc, _ => by simp [joinOf, bytesF]
  | f :: fs, acc, h => by
    rw [joinOf, if_pos (h f (by simp)), joinOf_ok fs _ (fun g hg => h g (by simp [hg]))]
    simp [bytesF]
theorem chk_ok {t : Int} {l : List UInt8} (h1 : 1 ≤ t) (h2 : t ≤ 255) (h3 : l.length ≤ 65535) : chk (t, l) = 0 := by
  unfold chk
  rw [if_neg (by simp only; omega), if_neg (by simp only; omega)]
theorem numB_length (n : Nat) : (numB n).length ≤ 8 := by rw [numB, List.length_reverse]; exact leB_length 8 n
theorem wrap_nat (n : Nat) (h : n < 18446744073709551616) : IntKind.u64.wrap (n : Int) = (n : Int) := by
  show (n : Int) % 18446744073709551616 = n
  omega
/-- What the ones that write answer. -/
def Wrote (w : World) (ok : Bool) (b : List UInt8) (e : Ending) (w' : World) : Prop :=
  w.grownBy w' none ∧ if ok = true then ∃ v, e = .returned (.tuple #[v, .int .i64 0]) ∧ IsB w' v b else e = .returned (.tuple #[.slice none 0 0, .int .i64 1])
theorem Wrote.no {w w' : World} {e : Ending} {b : List UInt8} (h : e = .returned (.tuple #[.slice none 0 0, .int .i64 1])) (hg : w.grownBy w' none) : Wrote w false b e w' := ⟨hg, by rw [if_neg (by simp)]; exact h⟩
theorem Wrote.yes {w w' : World} {v : Value} {b : List UInt8} (h : IsB w' v b) (hg : w.grownBy w' none) : Wrote w true b (.returned (.tuple #[v, .int .i64 0])) w' := ⟨hg, by rw [if_pos rfl]; exact ⟨v, rfl, h⟩⟩
/-- The bytes within a block. -/
theorem RB.inside {w : World} {g off : Nat} {t : TypeId} {cs : List Value} {l : List UInt8} (h : CB w g t cs) (hp : (cs.drop off).take l.length = bcells l) (hm : l.length ≤ maxLen) : RB w w.heap.size (some ⟨g, off, none⟩) l l.length := by
  refine ⟨Nat.le_refl _, hm, .inr ⟨_, rfl, fun k u hu => ⟨h.lt, ?_⟩⟩⟩
  rw [Addr.add_lit]
  refine h.at_ ?_
  have h1 := bcells_some hu
  rw [← hp] at h1
  have hk : k < l.length := (List.getElem?_eq_some_iff.1 hu).1
  rwa [List.getElem?_take_of_lt hk, List.getElem?_drop] at h1
theorem IsB.len {w : World} {v : Value} {l : List UInt8} {n : Nat} (h : IsB w v l) (hn : l.length = n) : ∃ A c, v = .slice A n c ∧ RB w w.heap.size A l c := by
  subst hn
  exact h
theorem texts6 {x : World} {B : Nat} {A1 A2 A3 A4 A5 A6 : Option Addr} {c1 c2 c3 c4 c5 c6 : Nat} {l1 l2 l3 l4 l5 l6 : List UInt8} (r1 : RB x B A1 l1 c1) (r2 : RB x B A2 l2 c2) (r3 : RB x B A3 l3 c3) (r4 : RB x B A4 l4 c4) (r5 : RB x B A5 l5 c5) (r6 : RB x B A6 l6 c6) :
    Texts x B [.slice A1 l1.length c1, .slice A2 l2.length c2, .slice A3 l3.length c3, .slice A4 l4.length c4, .slice A5 l5.length c5, .slice A6 l6.length c6] [l1, l2, l3, l4, l5, l6] :=
  ((((((Texts.nil_ x B).snoc r1).snoc r2).snoc r3).snoc r4).snoc r5).snoc r6
theorem texts4 {x : World} {B : Nat} {A1 A2 A3 A4 : Option Addr} {c1 c2 c3 c4 : Nat} {l1 l2 l3 l4 : List UInt8} (r1 : RB x B A1 l1 c1) (r2 : RB x B A2 l2 c2) (r3 : RB x B A3 l3 c3) (r4 : RB x B A4 l4 c4) :
    Texts x B [.slice A1 l1.length c1, .slice A2 l2.length c2, .slice A3 l3.length c3, .slice A4 l4.length c4] [l1, l2, l3, l4] :=
  ((((Texts.nil_ x B).snoc r1).snoc r2).snoc r3).snoc r4
theorem bool_cases {b : Bool} : b = true ∨ b = false := by cases b <;> simp

/-! Ticket. -/
def tcells (c s : ByteArray) (k : List UInt8) (st en fl : Int) : List Value := [.string c, .string s] ++ bcells k ++ [.int .i64 st, .int .i64 en, .int .i64 fl]
theorem tcells_length (c s : ByteArray) (k : List UInt8) (st en fl : Int) (hk : k.length = 16) : (tcells c s k st en fl).length = 21 := by simp [tcells, bcells_length, hk]
theorem tcells_c (c s : ByteArray) (k : List UInt8) (st en fl : Int) (_ : k.length = 16) : (tcells c s k st en fl)[0]? = some (.string c) := rfl
theorem tcells_s (c s : ByteArray) (k : List UInt8) (st en fl : Int) (_ : k.length = 16) : (tcells c s k st en fl)[1]? = some (.string s) := rfl
theorem tcells_st (c s : ByteArray) (k : List UInt8) (st en fl : Int) (hk : k.length = 16) : (tcells c s k st en fl)[18]? = some (.int .i64 st) := by
  simp [tcells, bcells_length, hk]
theorem tcells_en (c s : ByteArray) (k : List UInt8) (st en fl : Int) (hk : k.length = 16) : (tcells c s k st en fl)[19]? = some (.int .i64 en) := by
  simp [tcells, bcells_length, hk]
theorem tcells_fl (c s : ByteArray) (k : List UInt8) (st en fl : Int) (hk : k.length = 16) : (tcells c s k st en fl)[20]? = some (.int .i64 fl) := by
  simp [tcells, bcells_length, hk]
theorem tcells_key (c s : ByteArray) (k : List UInt8) (st en fl : Int) : ((tcells c s k st en fl).drop 2).take k.length = bcells k := by
  rw [tcells, List.append_assoc, List.drop_append_of_le_length (by simp)]
  exact List.take_left' (bcells_length k)
def tOk (lc ls : List UInt8) (st en fl : Int) : Bool := parses lc && (parses ls && (spanOk st en && (flagsOk fl)))
def tFields (lc ls k : List UInt8) (st en fl : Nat) : List Fd := [(1, lc), (2, ls), (3, k), (4, numB st), (5, numB en), (6, numB fl)]
/-- What the operations of its writing yield. -/
def TktF (w : World) (c s : ByteArray) (lc ls k : List UInt8) (st en fl : Nat) : Nat → Value → World → Prop
  | 0, v, x => IsI x v [1, 2, 3, 4, 5, 6]
  | 1, v, _ => v = .pointer (some ⟨w.heap.size, 0, none⟩)
  | 2, v, _ => v = .string c
  | 3, v, x => IsB x v lc
  | 4, v, _ => v = .pointer (some ⟨w.heap.size, 1, none⟩)
  | 5, v, _ => v = .string s
  | 6, v, x => IsB x v ls
  | 7, v, _ => v = .pointer (some ⟨w.heap.size, 2, none⟩)
  | 8, v, _ => v = .slice (some ⟨w.heap.size, 2, none⟩) 16 16
  | 9, v, _ => v = .pointer (some ⟨w.heap.size, 18, none⟩)
  | 10, v, _ => v = .int .i64 (st : Int)
  | 11, v, _ => v = .int .u64 (st : Int)
  | 12, v, x => IsB x v (numB st)
  | 13, v, _ => v = .pointer (some ⟨w.heap.size, 19, none⟩)
  | 14, v, _ => v = .int .i64 (en : Int)
  | 15, v, _ => v = .int .u64 (en : Int)
  | 16, v, x => IsB x v (numB en)
  | 17, v, _ => v = .pointer (some ⟨w.heap.size, 20, none⟩)
  | 18, v, _ => v = .int .i64 (fl : Int)
  | 19, v, _ => v = .int .u64 (fl : Int)
  | 20, v, x => IsB x v (numB fl)
  | 21, v, x => ∃ g us, v = .slice (some ⟨g, 0, none⟩) 6 6 ∧ CB x g 31 us ∧ Texts x x.heap.size us [lc, ls, k, numB st, numB en, numB fl]
  | 22, v, x => ∃ u, v = .tuple #[u, .int .i64 0] ∧ IsB x u (bytesF (tFields lc ls k st en fl))
  | 23, v, x => IsB x v (bytesF (tFields lc ls k st en fl))
  | 24, v, _ => v = .int .i64 0
  | 25, v, x => IsB x v (bytesF (tFields lc ls k st en fl))
  | 26, v, _ => v = .int .i64 0
  | _, _, _ => True
theorem TktF.kept {w : World} {c s : ByteArray} {lc ls k : List UInt8} {st en fl : Nat} : ∀ (j : Nat) (v : Value) (x y : World), World.grownBy x y none → TktF w c s lc ls k st en fl j v x → TktF w c s lc ls k st en fl j v y
  | 0, _, _, _, hg, h => IsI.kept h hg
  | 1, _, _, _, _, h => h
  | 2, _, _, _, _, h => h
  | 3, _, _, _, hg, h => IsB.kept h hg
  | 4, _, _, _, _, h => h
  | 5, _, _, _, _, h => h
  | 6, _, _, _, hg, h => IsB.kept h hg
  | 7, _, _, _, _, h => h
  | 8, _, _, _, _, h => h
  | 9, _, _, _, _, h => h
  | 10, _, _, _, _, h => h
  | 11, _, _, _, _, h => h
  | 12, _, _, _, hg, h => IsB.kept h hg
  | 13, _, _, _, _, h => h
  | 14, _, _, _, _, h => h
  | 15, _, _, _, _, h => h
  | 16, _, _, _, hg, h => IsB.kept h hg
  | 17, _, _, _, _, h => h
  | 18, _, _, _, _, h => h
  | 19, _, _, _, _, h => h
  | 20, _, _, _, hg, h => IsB.kept h hg
  | 21, _, _, _, hg, ⟨g, us, hv, hc, ht⟩ => ⟨g, us, hv, hc.kept hg, (ht.kept hg (Nat.le_refl _)).more hg.size⟩
  | 22, _, _, _, hg, ⟨u, hv, hb⟩ => ⟨u, hv, hb.kept hg⟩
  | 23, _, _, _, hg, h => IsB.kept h hg
  | 24, _, _, _, _, h => h
  | 25, _, _, _, hg, h => IsB.kept h hg
  | 26, _, _, _, _, h => h
  | _ + 27, _, _, _, _, _ => by simp [TktF]
/-! Auth. -/
def acells (c : ByteArray) (k : List UInt8) (ti no : Int) : List Value := [.string c, .int .i64 ti, .int .u64 no] ++ bcells k ++ []
theorem acells_length (c : ByteArray) (k : List UInt8) (ti no : Int) (hk : k.length = 16) : (acells c k ti no).length = 19 := by simp [acells, bcells_length, hk]
theorem acells_c (c : ByteArray) (k : List UInt8) (ti no : Int) (_ : k.length = 16) : (acells c k ti no)[0]? = some (.string c) := rfl
theorem acells_ti (c : ByteArray) (k : List UInt8) (ti no : Int) (_ : k.length = 16) : (acells c k ti no)[1]? = some (.int .i64 ti) := rfl
theorem acells_no (c : ByteArray) (k : List UInt8) (ti no : Int) (_ : k.length = 16) : (acells c k ti no)[2]? = some (.int .u64 no) := rfl
theorem acells_key (c : ByteArray) (k : List UInt8) (ti no : Int) : ((acells c k ti no).drop 3).take k.length = bcells k := by
  rw [acells, List.append_assoc, List.drop_append_of_le_length (by simp)]
  exact List.take_left' (bcells_length k)
def aOk (lc : List UInt8) (ti : Int) : Bool := parses lc && (timeOk ti)
def aFields (lc k : List UInt8) (ti no : Nat) : List Fd := [(11, lc), (12, numB ti), (13, numB no), (14, k)]
/-- What the operations of its writing yield. -/
def TkaF (w : World) (c : ByteArray) (lc k : List UInt8) (ti no : Nat) : Nat → Value → World → Prop
  | 0, v, x => IsI x v [11, 12, 13, 14]
  | 1, v, _ => v = .pointer (some ⟨w.heap.size, 0, none⟩)
  | 2, v, _ => v = .string c
  | 3, v, x => IsB x v lc
  | 4, v, _ => v = .pointer (some ⟨w.heap.size, 1, none⟩)
  | 5, v, _ => v = .int .i64 (ti : Int)
  | 6, v, _ => v = .int .u64 (ti : Int)
  | 7, v, x => IsB x v (numB ti)
  | 8, v, _ => v = .pointer (some ⟨w.heap.size, 2, none⟩)
  | 9, v, _ => v = .int .u64 (no : Int)
  | 10, v, x => IsB x v (numB no)
  | 11, v, _ => v = .pointer (some ⟨w.heap.size, 3, none⟩)
  | 12, v, _ => v = .slice (some ⟨w.heap.size, 3, none⟩) 16 16
  | 13, v, x => ∃ g us, v = .slice (some ⟨g, 0, none⟩) 4 4 ∧ CB x g 31 us ∧ Texts x x.heap.size us [lc, numB ti, numB no, k]
  | 14, v, x => ∃ u, v = .tuple #[u, .int .i64 0] ∧ IsB x u (bytesF (aFields lc k ti no))
  | 15, v, x => IsB x v (bytesF (aFields lc k ti no))
  | 16, v, _ => v = .int .i64 0
  | 17, v, x => IsB x v (bytesF (aFields lc k ti no))
  | 18, v, _ => v = .int .i64 0
  | _, _, _ => True
theorem TkaF.kept {w : World} {c : ByteArray} {lc k : List UInt8} {ti no : Nat} : ∀ (j : Nat) (v : Value) (x y : World), World.grownBy x y none → TkaF w c lc k ti no j v x → TkaF w c lc k ti no j v y
  | 0, _, _, _, hg, h => IsI.kept h hg
  | 1, _, _, _, _, h => h
  | 2, _, _, _, _, h => h
  | 3, _, _, _, hg, h => IsB.kept h hg
  | 4, _, _, _, _, h => h
  | 5, _, _, _, _, h => h
  | 6, _, _, _, _, h => h
  | 7, _, _, _, hg, h => IsB.kept h hg
  | 8, _, _, _, _, h => h
  | 9, _, _, _, _, h => h
  | 10, _, _, _, hg, h => IsB.kept h hg
  | 11, _, _, _, _, h => h
  | 12, _, _, _, _, h => h
  | 13, _, _, _, hg, ⟨g, us, hv, hc, ht⟩ => ⟨g, us, hv, hc.kept hg, (ht.kept hg (Nat.le_refl _)).more hg.size⟩
  | 14, _, _, _, hg, ⟨u, hv, hb⟩ => ⟨u, hv, hb.kept hg⟩
  | 15, _, _, _, hg, h => IsB.kept h hg
  | 16, _, _, _, _, h => h
  | 17, _, _, _, hg, h => IsB.kept h hg
  | 18, _, _, _, _, h => h
  | _ + 19, _, _, _, _, _ => by simp [TkaF]
/-! Grant. -/
def gcells (s : ByteArray) (k : List UInt8) (no st en fl : Int) : List Value := [.string s] ++ bcells k ++ [.int .u64 no, .int .i64 st, .int .i64 en, .int .i64 fl]
theorem gcells_length (s : ByteArray) (k : List UInt8) (no st en fl : Int) (hk : k.length = 16) : (gcells s k no st en fl).length = 21 := by simp [gcells, bcells_length, hk]
theorem gcells_s (s : ByteArray) (k : List UInt8) (no st en fl : Int) (_ : k.length = 16) : (gcells s k no st en fl)[0]? = some (.string s) := rfl
theorem gcells_no (s : ByteArray) (k : List UInt8) (no st en fl : Int) (hk : k.length = 16) : (gcells s k no st en fl)[17]? = some (.int .u64 no) := by
  simp [gcells, bcells_length, hk]
theorem gcells_st (s : ByteArray) (k : List UInt8) (no st en fl : Int) (hk : k.length = 16) : (gcells s k no st en fl)[18]? = some (.int .i64 st) := by
  simp [gcells, bcells_length, hk]
theorem gcells_en (s : ByteArray) (k : List UInt8) (no st en fl : Int) (hk : k.length = 16) : (gcells s k no st en fl)[19]? = some (.int .i64 en) := by
  simp [gcells, bcells_length, hk]
theorem gcells_fl (s : ByteArray) (k : List UInt8) (no st en fl : Int) (hk : k.length = 16) : (gcells s k no st en fl)[20]? = some (.int .i64 fl) := by
  simp [gcells, bcells_length, hk]
theorem gcells_key (s : ByteArray) (k : List UInt8) (no st en fl : Int) : ((gcells s k no st en fl).drop 1).take k.length = bcells k := by
  rw [gcells, List.append_assoc, List.drop_append_of_le_length (by simp)]
  exact List.take_left' (bcells_length k)
def gOk (ls : List UInt8) (st en fl : Int) : Bool := parses ls && (spanOk st en && (flagsOk fl))
def gFields (ls k : List UInt8) (no st en fl : Nat) : List Fd := [(21, ls), (22, k), (23, numB no), (24, numB st), (25, numB en), (26, numB fl)]
/-- What the operations of its writing yield. -/
def TkgF (w : World) (s : ByteArray) (ls k : List UInt8) (no st en fl : Nat) : Nat → Value → World → Prop
  | 0, v, x => IsI x v [21, 22, 23, 24, 25, 26]
  | 1, v, _ => v = .pointer (some ⟨w.heap.size, 0, none⟩)
  | 2, v, _ => v = .string s
  | 3, v, x => IsB x v ls
  | 4, v, _ => v = .pointer (some ⟨w.heap.size, 1, none⟩)
  | 5, v, _ => v = .slice (some ⟨w.heap.size, 1, none⟩) 16 16
  | 6, v, _ => v = .pointer (some ⟨w.heap.size, 17, none⟩)
  | 7, v, _ => v = .int .u64 (no : Int)
  | 8, v, x => IsB x v (numB no)
  | 9, v, _ => v = .pointer (some ⟨w.heap.size, 18, none⟩)
  | 10, v, _ => v = .int .i64 (st : Int)
  | 11, v, _ => v = .int .u64 (st : Int)
  | 12, v, x => IsB x v (numB st)
  | 13, v, _ => v = .pointer (some ⟨w.heap.size, 19, none⟩)
  | 14, v, _ => v = .int .i64 (en : Int)
  | 15, v, _ => v = .int .u64 (en : Int)
  | 16, v, x => IsB x v (numB en)
  | 17, v, _ => v = .pointer (some ⟨w.heap.size, 20, none⟩)
  | 18, v, _ => v = .int .i64 (fl : Int)
  | 19, v, _ => v = .int .u64 (fl : Int)
  | 20, v, x => IsB x v (numB fl)
  | 21, v, x => ∃ g us, v = .slice (some ⟨g, 0, none⟩) 6 6 ∧ CB x g 31 us ∧ Texts x x.heap.size us [ls, k, numB no, numB st, numB en, numB fl]
  | 22, v, x => ∃ u, v = .tuple #[u, .int .i64 0] ∧ IsB x u (bytesF (gFields ls k no st en fl))
  | 23, v, x => IsB x v (bytesF (gFields ls k no st en fl))
  | 24, v, _ => v = .int .i64 0
  | 25, v, x => IsB x v (bytesF (gFields ls k no st en fl))
  | 26, v, _ => v = .int .i64 0
  | _, _, _ => True
theorem TkgF.kept {w : World} {s : ByteArray} {ls k : List UInt8} {no st en fl : Nat} : ∀ (j : Nat) (v : Value) (x y : World), World.grownBy x y none → TkgF w s ls k no st en fl j v x → TkgF w s ls k no st en fl j v y
  | 0, _, _, _, hg, h => IsI.kept h hg
  | 1, _, _, _, _, h => h
  | 2, _, _, _, _, h => h
  | 3, _, _, _, hg, h => IsB.kept h hg
  | 4, _, _, _, _, h => h
  | 5, _, _, _, _, h => h
  | 6, _, _, _, _, h => h
  | 7, _, _, _, _, h => h
  | 8, _, _, _, hg, h => IsB.kept h hg
  | 9, _, _, _, _, h => h
  | 10, _, _, _, _, h => h
  | 11, _, _, _, _, h => h
  | 12, _, _, _, hg, h => IsB.kept h hg
  | 13, _, _, _, _, h => h
  | 14, _, _, _, _, h => h
  | 15, _, _, _, _, h => h
  | 16, _, _, _, hg, h => IsB.kept h hg
  | 17, _, _, _, _, h => h
  | 18, _, _, _, _, h => h
  | 19, _, _, _, _, h => h
  | 20, _, _, _, hg, h => IsB.kept h hg
  | 21, _, _, _, hg, ⟨g, us, hv, hc, ht⟩ => ⟨g, us, hv, hc.kept hg, (ht.kept hg (Nat.le_refl _)).more hg.size⟩
  | 22, _, _, _, hg, ⟨u, hv, hb⟩ => ⟨u, hv, hb.kept hg⟩
  | 23, _, _, _, hg, h => IsB.kept h hg
  | 24, _, _, _, _, h => h
  | 25, _, _, _, hg, h => IsB.kept h hg
  | 26, _, _, _, _, h => h
  | _ + 27, _, _, _, _, _ => by simp [TkgF]
set_option maxRecDepth 10000 in
set_option maxHeartbeats 2000000 in
theorem gwrite_no0 (s : ByteArray) (ls k : List UInt8) (no st en fl : Int) (w : World) (hM : ML w) (hds : s.data.toList = ls) (hk : k.length = 16) (hls : ls.length ≤ 1000000) (h0 : parses ls = false) :
    Calls Tryd.prog 27 #[.agg (gcells s k no st en fl).toArray] w fun e w' => e = .returned (.tuple #[.slice none 0 0, .int .i64 1]) ∧ w.grownBy w' none := by
  have H0 := Lib.hid h0
  have HM := Lib.hid hM
  have HDs := Lib.hid hds
  have HLNs := Lib.hid hls
  have HTs := Lib.hid (gcells_s s k no st en fl hk)
  have TK0 := Lib.hid True.intro
  clear hM hk hds hls h0
  go_enter Tryd.func27, Tryd.ntmps27
  have B0 := Lib.hid (CB.new w 36 (gcells s k no st en fl))
  have G0 := Lib.hid (grown_alloc w (.cells (gcells s k no st en fl).toArray 36) none)
  have qs := B0.out.at_ HTs.out
  go_wp2_with (first
    | (go_at_call 38; have hx := TK0; clear hx; refine (isName_any s ls HDs.out _ (HM.out.below (below_of_none G0.out)) HLNs.out).mono ?_; rintro e w1 ⟨rfl, g1⟩; rw [H0.out]; clear TK0; have B1 := Lib.hid (B0.out.kept g1); have G1 := Lib.hid (grown_trans' G0.out g1); clear g1 qs))
  go_ret2
  exact ⟨rfl, G1.out⟩
set_option maxRecDepth 10000 in
set_option maxHeartbeats 2000000 in
theorem gwrite_no1 (s : ByteArray) (ls k : List UInt8) (no st en fl : Int) (w : World) (hM : ML w) (hds : s.data.toList = ls) (hk : k.length = 16) (hls : ls.length ≤ 1000000) (h0 : parses ls = true) (h1 : spanOk st en = false) :
    Calls Tryd.prog 27 #[.agg (gcells s k no st en fl).toArray] w fun e w' => e = .returned (.tuple #[.slice none 0 0, .int .i64 1]) ∧ w.grownBy w' none := by
  have H0 := Lib.hid h0
  have H1 := Lib.hid h1
  have HM := Lib.hid hM
  have HDs := Lib.hid hds
  have HLNs := Lib.hid hls
  have HTs := Lib.hid (gcells_s s k no st en fl hk)
  have HTst := Lib.hid (gcells_st s k no st en fl hk)
  have HTen := Lib.hid (gcells_en s k no st en fl hk)
  have TK0 := Lib.hid True.intro
  clear hM hk hds hls h0 h1
  go_enter Tryd.func27, Tryd.ntmps27
  have B0 := Lib.hid (CB.new w 36 (gcells s k no st en fl))
  have G0 := Lib.hid (grown_alloc w (.cells (gcells s k no st en fl).toArray 36) none)
  have qs := B0.out.at_ HTs.out
  have qst := B0.out.at_ HTst.out
  have qen := B0.out.at_ HTen.out
  go_wp2_with (first
    | (go_at_call 38; have hx := TK0; clear hx; refine (isName_any s ls HDs.out _ (HM.out.below (below_of_none G0.out)) HLNs.out).mono ?_; rintro e w1 ⟨rfl, g1⟩; rw [H0.out]; clear TK0; have TK1 := Lib.hid True.intro; have B1 := Lib.hid (B0.out.kept g1); have G1 := Lib.hid (grown_trans' G0.out g1); clear g1 qs qst qen; have qst := B1.out.at_ HTst.out; have qen := B1.out.at_ HTen.out)
    | (go_at_call 39; refine (isSpan_any _ _ _).mono ?_; rintro e w8 ⟨rfl, rfl⟩; rw [H1.out]; clear TK1; skip))
  go_ret2
  exact ⟨rfl, G1.out⟩
set_option maxRecDepth 10000 in
set_option maxHeartbeats 2000000 in
theorem gwrite_no2 (s : ByteArray) (ls k : List UInt8) (no st en fl : Int) (w : World) (hM : ML w) (hds : s.data.toList = ls) (hk : k.length = 16) (hls : ls.length ≤ 1000000) (h0 : parses ls = true) (h1 : spanOk st en = true) (h2 : flagsOk fl = false) :
    Calls Tryd.prog 27 #[.agg (gcells s k no st en fl).toArray] w fun e w' => e = .returned (.tuple #[.slice none 0 0, .int .i64 1]) ∧ w.grownBy w' none := by
  have H0 := Lib.hid h0
  have H1 := Lib.hid h1
  have H2 := Lib.hid h2
  have HM := Lib.hid hM
  have HDs := Lib.hid hds
  have HLNs := Lib.hid hls
  have HTs := Lib.hid (gcells_s s k no st en fl hk)
  have HTst := Lib.hid (gcells_st s k no st en fl hk)
  have HTen := Lib.hid (gcells_en s k no st en fl hk)
  have HTfl := Lib.hid (gcells_fl s k no st en fl hk)
  have TK0 := Lib.hid True.intro
  clear hM hk hds hls h0 h1 h2
  go_enter Tryd.func27, Tryd.ntmps27
  have B0 := Lib.hid (CB.new w 36 (gcells s k no st en fl))
  have G0 := Lib.hid (grown_alloc w (.cells (gcells s k no st en fl).toArray 36) none)
  have qs := B0.out.at_ HTs.out
  have qst := B0.out.at_ HTst.out
  have qen := B0.out.at_ HTen.out
  have qfl := B0.out.at_ HTfl.out
  go_wp2_with (first
    | (go_at_call 38; have hx := TK0; clear hx; refine (isName_any s ls HDs.out _ (HM.out.below (below_of_none G0.out)) HLNs.out).mono ?_; rintro e w1 ⟨rfl, g1⟩; rw [H0.out]; clear TK0; have TK1 := Lib.hid True.intro; have B1 := Lib.hid (B0.out.kept g1); have G1 := Lib.hid (grown_trans' G0.out g1); clear g1 qs qst qen qfl; have qst := B1.out.at_ HTst.out; have qen := B1.out.at_ HTen.out; have qfl := B1.out.at_ HTfl.out)
    | (go_at_call 39; refine (isSpan_any _ _ _).mono ?_; rintro e w8 ⟨rfl, rfl⟩; rw [H1.out]; clear TK1; have TK2 := Lib.hid True.intro)
    | (go_at_call 40; refine (areFlags_any _ _).mono ?_; rintro e w9 ⟨rfl, rfl⟩; rw [H2.out]))
  go_ret2
  exact ⟨rfl, G1.out⟩
set_option maxRecDepth 10000 in
set_option maxHeartbeats 2000000 in
theorem gwrite_yes (s : ByteArray) (ls k : List UInt8) (no st en fl : Nat) (w : World) (hM : ML w) (hds : s.data.toList = ls) (hk : k.length = 16) (h0 : parses ls = true) (h1 : spanOk st en = true) (h2 : flagsOk fl = true) (hno : no < 18446744073709551616) :
    Calls Tryd.prog 27 #[.agg (gcells s k (no : Int) (st : Int) (en : Int) (fl : Int)).toArray] w fun e w' => ∃ v, e = .returned (.tuple #[v, .int .i64 0]) ∧ IsB w' v (bytesF (gFields ls k no st en fl)) ∧ w.grownBy w' none := by
  have H0 := Lib.hid h0
  have H1 := Lib.hid h1
  have H2 := Lib.hid h2
  have hn : no < 18446744073709551616 ∧ st ≤ 1099511627776 ∧ en ≤ 1099511627776 ∧ fl ≤ 3 := by
    simp only [spanOk, timeOk, flagsOk, Bool.and_eq_true, decide_eq_true_eq] at h1 h2
    omega
  have pls := parses_len h0
  have HN := Lib.hid hn
  have HM := Lib.hid hM
  have HKL := Lib.hid hk
  have HDs := Lib.hid hds
  have HLNs := Lib.hid (show ls.length ≤ 1000000 by omega)
  have HSZs := Lib.hid (show s.size ≤ 70368744177664 by have : s.size = s.data.toList.length := rfl; rw [this, hds]; omega)
  have HTs := Lib.hid (gcells_s s k (no : Int) (st : Int) (en : Int) (fl : Int) hk)
  have HTno := Lib.hid (gcells_no s k (no : Int) (st : Int) (en : Int) (fl : Int) hk)
  have HTst := Lib.hid (gcells_st s k (no : Int) (st : Int) (en : Int) (fl : Int) hk)
  have HTen := Lib.hid (gcells_en s k (no : Int) (st : Int) (en : Int) (fl : Int) hk)
  have HTfl := Lib.hid (gcells_fl s k (no : Int) (st : Int) (en : Int) (fl : Int) hk)
  have HPK := Lib.hid (gcells_key s k (no : Int) (st : Int) (en : Int) (fl : Int))
  have HWst := Lib.hid (wrap_nat st (by omega))
  have HWen := Lib.hid (wrap_nat en (by omega))
  have HWfl := Lib.hid (wrap_nat fl (by omega))
  have HALL : ∀ f ∈ (gFields ls k no st en fl), (1 ≤ f.1 ∧ f.1 ≤ 255) ∧ f.2.length ≤ 67 := by
    intro f hf
    have nno := numB_length no
    have nst := numB_length st
    have nen := numB_length en
    have nfl := numB_length fl
    simp only [gFields, List.mem_cons, List.not_mem_nil, or_false] at hf
    rcases hf with rfl | rfl | rfl | rfl | rfl | rfl <;> simp only <;> omega
  have HTG := Lib.hid (show ∀ f ∈ (gFields ls k no st en fl), -9223372036854775808 ≤ f.1 ∧ f.1 ≤ 9223372036854775807 from fun f hf => by have := HALL f hf; omega)
  have HJ := Lib.hid (show joinOf (gFields ls k no st en fl) [] = (bytesF (gFields ls k no st en fl), 0) from joinOf_ok _ _ (fun f hf => chk_ok (HALL f hf).1.1 (HALL f hf).1.2 (by have := (HALL f hf).2; omega)))
  have HTO := Lib.hid (show tot (gFields ls k no st en fl) ≤ 1000000000 by
    have nno := numB_length no
    have nst := numB_length st
    have nen := numB_length en
    have nfl := numB_length fl
    simp only [tot, gFields, List.map_cons, List.map_nil, List.sum_cons, List.sum_nil]
    omega)
  have TK0 := Lib.hid True.intro
  clear hM hk hds h0 h1 h2 hn pls HALL hno
  go_enter Tryd.func27, Tryd.ntmps27
  have B0 := Lib.hid (CB.new w 36 (gcells s k (no : Int) (st : Int) (en : Int) (fl : Int)))
  have G0 := Lib.hid (grown_alloc w (.cells (gcells s k (no : Int) (st : Int) (en : Int) (fl : Int)).toArray 36) none)
  have qs := B0.out.at_ HTs.out
  have qst := B0.out.at_ HTst.out
  have qen := B0.out.at_ HTen.out
  have qfl := B0.out.at_ HTfl.out
  go_wp2_with (first
    | (go_at_call 38; have hx := TK0; clear hx; refine (isName_any s ls HDs.out _ (HM.out.below (below_of_none G0.out)) HLNs.out).mono ?_; rintro e w1 ⟨rfl, g1⟩; rw [H0.out]; clear TK0; have TK1 := Lib.hid True.intro; have B1 := Lib.hid (B0.out.kept g1); have G1 := Lib.hid (grown_trans' G0.out g1); clear g1 qs qst qen qfl; have qst := B1.out.at_ HTst.out; have qen := B1.out.at_ HTen.out; have qfl := B1.out.at_ HTfl.out)
    | (go_at_call 39; refine (isSpan_any _ _ _).mono ?_; rintro e w8 ⟨rfl, rfl⟩; rw [H1.out]; clear TK1; have TK2 := Lib.hid True.intro)
    | (go_at_call 40; refine (areFlags_any _ _).mono ?_; rintro e w9 ⟨rfl, rfl⟩; rw [H2.out]))
  clear qst qen qfl
  have B5 := Lib.hid (show CB w1.drew w.heap.size 36 (gcells s k (no : Int) (st : Int) (en : Int) (fl : Int)) from B1.out)
  have G5 := Lib.hid (grown_drew G1.out)
  refine Inv.region_made (n := 27) (ds := [some 22, some 23, some 24, some 25, some 26, some 27, some 28, some 29, some 30, some 31, some 32, some 33, some 34, some 35, some 36, some 37, some 38, some 39, some 40, some 41, some 42, some 43, some 44, some 45, some 46, some 2, some 3]) (fun x => CB x w.heap.size 36 (gcells s k (no : Int) (st : Int) (en : Int) (fl : Int)) ∧ w.grownBy x none) (TkgF w s ls k no st en fl) (by kernel_rfl) (by kernel_rfl) rfl (by kernel_rfl) (fun _ _ hg h => ⟨h.1.kept hg, grown_trans' h.2 hg⟩) (fun j v x y hg _ h => TkgF.kept j v x y hg h) ⟨B5.out, G5.out⟩ ⟨⟨⟨⟨⟨⟨⟨⟨⟨⟨⟨⟨⟨⟨⟨⟨⟨⟨⟨⟨⟨⟨⟨⟨⟨⟨⟨trivial, ?_⟩, ?_⟩, ?_⟩, ?_⟩, ?_⟩, ?_⟩, ?_⟩, ?_⟩, ?_⟩, ?_⟩, ?_⟩, ?_⟩, ?_⟩, ?_⟩, ?_⟩, ?_⟩, ?_⟩, ?_⟩, ?_⟩, ?_⟩, ?_⟩, ?_⟩, ?_⟩, ?_⟩, ?_⟩, ?_⟩, ?_⟩ ?_
  · refine Inv.duty_plain rfl rfl (fun L vs a x hG dep up val ev out K hK => ?_)
    obtain ⟨hB, hW⟩ := hG
    have ef : ∀ f, a.eval (.func f) = .func (.func f) #[] #[] := fun _ => rfl
    refine Inv.wp_call (by clear hK K dep up val ev out; generalize a.eval = ρ at *; (simp [execOp, go_sem, *]; done)) ((gTags_any x).mono ?_)
    rintro e w' ⟨v, rfl, o, b⟩
    exact ⟨v, rfl, hK.out _ _ b o⟩
  · refine Inv.duty_plain rfl rfl (fun L vs a x hG dep up val ev out K hK => ?_)
    obtain ⟨hB, hW⟩ := hG
    have e1 : a.eval (.tmp 1) = .pointer (some ⟨w.heap.size, 0, none⟩) := (out 1 (by kernel_rfl)).trans rfl
    refine Inv.wp_value (v := .pointer (some ⟨w.heap.size, 0, none⟩)) ?_ (hK.out _ _ (World.grownBy.refl x _) rfl)
    clear hK K dep up val ev out
    generalize a.eval = ρ at *
    (simp [execOp, go_sem, *]; done)
  · refine Inv.duty_plain rfl rfl (fun L vs a x hG dep up val ev out K hK => ?_)
    obtain ⟨hB, hW⟩ := hG
    have L23 := dep 1 (by kernel_rfl)
    have e23 : a.eval (.tmp 23) = .pointer (some ⟨w.heap.size, 0, none⟩) := (ev 1 23 L23 (by kernel_rfl)).trans (val 1 L23)
    have hcell : x.cell? ⟨w.heap.size, 0, none⟩ = some (.string s) := hB.at_ HTs.out
    refine Inv.wp_value (v := .string s) ?_ (hK.out _ _ (World.grownBy.refl x _) rfl)
    clear hK K dep up val ev out
    generalize a.eval = ρ at *
    (simp [execOp, go_sem, *]; done)
  · refine Inv.duty_plain rfl rfl (fun L vs a x hG dep up val ev out K hK => ?_)
    obtain ⟨hB, hW⟩ := hG
    have L24 := dep 2 (by kernel_rfl)
    have e24 : a.eval (.tmp 24) = .string s := (ev 2 24 L24 (by kernel_rfl)).trans (val 2 L24)
    refine wp_convG byteT Tryd.underlying9 rfl (.tmp 24) rfl s HSZs.out e24 ?_
    intro v w' o g _
    rw [HDs.out] at o
    exact hK.out _ _ g o.isB
  · refine Inv.duty_plain rfl rfl (fun L vs a x hG dep up val ev out K hK => ?_)
    obtain ⟨hB, hW⟩ := hG
    have e1 : a.eval (.tmp 1) = .pointer (some ⟨w.heap.size, 0, none⟩) := (out 1 (by kernel_rfl)).trans rfl
    refine Inv.wp_value (v := .pointer (some ⟨w.heap.size, 1, none⟩)) ?_ (hK.out _ _ (World.grownBy.refl x _) rfl)
    clear hK K dep up val ev out
    generalize a.eval = ρ at *
    (simp [execOp, go_sem, *]; done)
  · refine Inv.duty_plain rfl rfl (fun L vs a x hG dep up val ev out K hK => ?_)
    obtain ⟨hB, hW⟩ := hG
    have L26 := dep 4 (by kernel_rfl)
    have e26 : a.eval (.tmp 26) = .pointer (some ⟨w.heap.size, 1, none⟩) := (ev 4 26 L26 (by kernel_rfl)).trans (val 4 L26)
    refine Inv.wp_value (v := .slice (some ⟨w.heap.size, 1, none⟩) 16 16) ?_ (hK.out _ _ (World.grownBy.refl x _) rfl)
    clear hK K dep up val ev out
    generalize a.eval = ρ at *
    (simp [execOp, go_sem, *]; done)
  · refine Inv.duty_plain rfl rfl (fun L vs a x hG dep up val ev out K hK => ?_)
    obtain ⟨hB, hW⟩ := hG
    have e1 : a.eval (.tmp 1) = .pointer (some ⟨w.heap.size, 0, none⟩) := (out 1 (by kernel_rfl)).trans rfl
    refine Inv.wp_value (v := .pointer (some ⟨w.heap.size, 17, none⟩)) ?_ (hK.out _ _ (World.grownBy.refl x _) rfl)
    clear hK K dep up val ev out
    generalize a.eval = ρ at *
    (simp [execOp, go_sem, *]; done)
  · refine Inv.duty_plain rfl rfl (fun L vs a x hG dep up val ev out K hK => ?_)
    obtain ⟨hB, hW⟩ := hG
    have L28 := dep 6 (by kernel_rfl)
    have e28 : a.eval (.tmp 28) = .pointer (some ⟨w.heap.size, 17, none⟩) := (ev 6 28 L28 (by kernel_rfl)).trans (val 6 L28)
    have hcell : x.cell? ⟨w.heap.size, 17, none⟩ = some (.int .u64 (no : Int)) := hB.at_ HTno.out
    refine Inv.wp_value (v := .int .u64 (no : Int)) ?_ (hK.out _ _ (World.grownBy.refl x _) rfl)
    clear hK K dep up val ev out
    generalize a.eval = ρ at *
    (simp [execOp, go_sem, *]; done)
  · refine Inv.duty_plain rfl rfl (fun L vs a x hG dep up val ev out K hK => ?_)
    obtain ⟨hB, hW⟩ := hG
    have ef : ∀ f, a.eval (.func f) = .func (.func f) #[] #[] := fun _ => rfl
    have L29 := dep 7 (by kernel_rfl)
    have e29 : a.eval (.tmp 29) = .int .u64 (no : Int) := (ev 7 29 L29 (by kernel_rfl)).trans (val 7 L29)
    refine Inv.wp_call (by clear hK K dep up val ev out; generalize a.eval = ρ at *; (simp [execOp, go_sem, *]; done)) ((num_at _ no rfl x (by have := HN.out; omega)).mono ?_)
    rintro e w' ⟨v, rfl, o, b⟩
    exact ⟨v, rfl, hK.out _ _ (none_of_below b (Nat.le_refl _)) o.isB⟩
  · refine Inv.duty_plain rfl rfl (fun L vs a x hG dep up val ev out K hK => ?_)
    obtain ⟨hB, hW⟩ := hG
    have e1 : a.eval (.tmp 1) = .pointer (some ⟨w.heap.size, 0, none⟩) := (out 1 (by kernel_rfl)).trans rfl
    refine Inv.wp_value (v := .pointer (some ⟨w.heap.size, 18, none⟩)) ?_ (hK.out _ _ (World.grownBy.refl x _) rfl)
    clear hK K dep up val ev out
    generalize a.eval = ρ at *
    (simp [execOp, go_sem, *]; done)
  · refine Inv.duty_plain rfl rfl (fun L vs a x hG dep up val ev out K hK => ?_)
    obtain ⟨hB, hW⟩ := hG
    have L31 := dep 9 (by kernel_rfl)
    have e31 : a.eval (.tmp 31) = .pointer (some ⟨w.heap.size, 18, none⟩) := (ev 9 31 L31 (by kernel_rfl)).trans (val 9 L31)
    have hcell : x.cell? ⟨w.heap.size, 18, none⟩ = some (.int .i64 (st : Int)) := hB.at_ HTst.out
    refine Inv.wp_value (v := .int .i64 (st : Int)) ?_ (hK.out _ _ (World.grownBy.refl x _) rfl)
    clear hK K dep up val ev out
    generalize a.eval = ρ at *
    (simp [execOp, go_sem, *]; done)
  · refine Inv.duty_plain rfl rfl (fun L vs a x hG dep up val ev out K hK => ?_)
    obtain ⟨hB, hW⟩ := hG
    have L32 := dep 10 (by kernel_rfl)
    have e32 : a.eval (.tmp 32) = .int .i64 (st : Int) := (ev 10 32 L32 (by kernel_rfl)).trans (val 10 L32)
    have hwr := HWst.out
    refine Inv.wp_value (v := .int .u64 (st : Int)) ?_ (hK.out _ _ (World.grownBy.refl x _) rfl)
    clear hK K dep up val ev out
    generalize a.eval = ρ at *
    (simp [execOp, go_sem, *]; done)
  · refine Inv.duty_plain rfl rfl (fun L vs a x hG dep up val ev out K hK => ?_)
    obtain ⟨hB, hW⟩ := hG
    have ef : ∀ f, a.eval (.func f) = .func (.func f) #[] #[] := fun _ => rfl
    have L33 := dep 11 (by kernel_rfl)
    have e33 : a.eval (.tmp 33) = .int .u64 (st : Int) := (ev 11 33 L33 (by kernel_rfl)).trans (val 11 L33)
    refine Inv.wp_call (by clear hK K dep up val ev out; generalize a.eval = ρ at *; (simp [execOp, go_sem, *]; done)) ((num_at _ st rfl x (by have := HN.out; omega)).mono ?_)
    rintro e w' ⟨v, rfl, o, b⟩
    exact ⟨v, rfl, hK.out _ _ (none_of_below b (Nat.le_refl _)) o.isB⟩
  · refine Inv.duty_plain rfl rfl (fun L vs a x hG dep up val ev out K hK => ?_)
    obtain ⟨hB, hW⟩ := hG
    have e1 : a.eval (.tmp 1) = .pointer (some ⟨w.heap.size, 0, none⟩) := (out 1 (by kernel_rfl)).trans rfl
    refine Inv.wp_value (v := .pointer (some ⟨w.heap.size, 19, none⟩)) ?_ (hK.out _ _ (World.grownBy.refl x _) rfl)
    clear hK K dep up val ev out
    generalize a.eval = ρ at *
    (simp [execOp, go_sem, *]; done)
  · refine Inv.duty_plain rfl rfl (fun L vs a x hG dep up val ev out K hK => ?_)
    obtain ⟨hB, hW⟩ := hG
    have L35 := dep 13 (by kernel_rfl)
    have e35 : a.eval (.tmp 35) = .pointer (some ⟨w.heap.size, 19, none⟩) := (ev 13 35 L35 (by kernel_rfl)).trans (val 13 L35)
    have hcell : x.cell? ⟨w.heap.size, 19, none⟩ = some (.int .i64 (en : Int)) := hB.at_ HTen.out
    refine Inv.wp_value (v := .int .i64 (en : Int)) ?_ (hK.out _ _ (World.grownBy.refl x _) rfl)
    clear hK K dep up val ev out
    generalize a.eval = ρ at *
    (simp [execOp, go_sem, *]; done)
  · refine Inv.duty_plain rfl rfl (fun L vs a x hG dep up val ev out K hK => ?_)
    obtain ⟨hB, hW⟩ := hG
    have L36 := dep 14 (by kernel_rfl)
    have e36 : a.eval (.tmp 36) = .int .i64 (en : Int) := (ev 14 36 L36 (by kernel_rfl)).trans (val 14 L36)
    have hwr := HWen.out
    refine Inv.wp_value (v := .int .u64 (en : Int)) ?_ (hK.out _ _ (World.grownBy.refl x _) rfl)
    clear hK K dep up val ev out
    generalize a.eval = ρ at *
    (simp [execOp, go_sem, *]; done)
  · refine Inv.duty_plain rfl rfl (fun L vs a x hG dep up val ev out K hK => ?_)
    obtain ⟨hB, hW⟩ := hG
    have ef : ∀ f, a.eval (.func f) = .func (.func f) #[] #[] := fun _ => rfl
    have L37 := dep 15 (by kernel_rfl)
    have e37 : a.eval (.tmp 37) = .int .u64 (en : Int) := (ev 15 37 L37 (by kernel_rfl)).trans (val 15 L37)
    refine Inv.wp_call (by clear hK K dep up val ev out; generalize a.eval = ρ at *; (simp [execOp, go_sem, *]; done)) ((num_at _ en rfl x (by have := HN.out; omega)).mono ?_)
    rintro e w' ⟨v, rfl, o, b⟩
    exact ⟨v, rfl, hK.out _ _ (none_of_below b (Nat.le_refl _)) o.isB⟩
  · refine Inv.duty_plain rfl rfl (fun L vs a x hG dep up val ev out K hK => ?_)
    obtain ⟨hB, hW⟩ := hG
    have e1 : a.eval (.tmp 1) = .pointer (some ⟨w.heap.size, 0, none⟩) := (out 1 (by kernel_rfl)).trans rfl
    refine Inv.wp_value (v := .pointer (some ⟨w.heap.size, 20, none⟩)) ?_ (hK.out _ _ (World.grownBy.refl x _) rfl)
    clear hK K dep up val ev out
    generalize a.eval = ρ at *
    (simp [execOp, go_sem, *]; done)
  · refine Inv.duty_plain rfl rfl (fun L vs a x hG dep up val ev out K hK => ?_)
    obtain ⟨hB, hW⟩ := hG
    have L39 := dep 17 (by kernel_rfl)
    have e39 : a.eval (.tmp 39) = .pointer (some ⟨w.heap.size, 20, none⟩) := (ev 17 39 L39 (by kernel_rfl)).trans (val 17 L39)
    have hcell : x.cell? ⟨w.heap.size, 20, none⟩ = some (.int .i64 (fl : Int)) := hB.at_ HTfl.out
    refine Inv.wp_value (v := .int .i64 (fl : Int)) ?_ (hK.out _ _ (World.grownBy.refl x _) rfl)
    clear hK K dep up val ev out
    generalize a.eval = ρ at *
    (simp [execOp, go_sem, *]; done)
  · refine Inv.duty_plain rfl rfl (fun L vs a x hG dep up val ev out K hK => ?_)
    obtain ⟨hB, hW⟩ := hG
    have L40 := dep 18 (by kernel_rfl)
    have e40 : a.eval (.tmp 40) = .int .i64 (fl : Int) := (ev 18 40 L40 (by kernel_rfl)).trans (val 18 L40)
    have hwr := HWfl.out
    refine Inv.wp_value (v := .int .u64 (fl : Int)) ?_ (hK.out _ _ (World.grownBy.refl x _) rfl)
    clear hK K dep up val ev out
    generalize a.eval = ρ at *
    (simp [execOp, go_sem, *]; done)
  · refine Inv.duty_plain rfl rfl (fun L vs a x hG dep up val ev out K hK => ?_)
    obtain ⟨hB, hW⟩ := hG
    have ef : ∀ f, a.eval (.func f) = .func (.func f) #[] #[] := fun _ => rfl
    have L41 := dep 19 (by kernel_rfl)
    have e41 : a.eval (.tmp 41) = .int .u64 (fl : Int) := (ev 19 41 L41 (by kernel_rfl)).trans (val 19 L41)
    refine Inv.wp_call (by clear hK K dep up val ev out; generalize a.eval = ρ at *; (simp [execOp, go_sem, *]; done)) ((num_at _ fl rfl x (by have := HN.out; omega)).mono ?_)
    rintro e w' ⟨v, rfl, o, b⟩
    exact ⟨v, rfl, hK.out _ _ (none_of_below b (Nat.le_refl _)) o.isB⟩
  · refine Inv.duty_plain rfl rfl (fun L vs a x hG dep up val ev out K hK => ?_)
    obtain ⟨hB, hW⟩ := hG
    have L25 := dep 3 (by kernel_rfl)
    have e25 := ev 3 25 L25 (by kernel_rfl)
    have f25 := val 3 L25
    have L27 := dep 5 (by kernel_rfl)
    have e27 : a.eval (.tmp 27) = .slice (some ⟨w.heap.size, 1, none⟩) 16 16 := (ev 5 27 L27 (by kernel_rfl)).trans (val 5 L27)
    have L30 := dep 8 (by kernel_rfl)
    have e30 := ev 8 30 L30 (by kernel_rfl)
    have f30 := val 8 L30
    have L34 := dep 12 (by kernel_rfl)
    have e34 := ev 12 34 L34 (by kernel_rfl)
    have f34 := val 12 L34
    have L38 := dep 16 (by kernel_rfl)
    have e38 := ev 16 38 L38 (by kernel_rfl)
    have f38 := val 16 L38
    have L42 := dep 20 (by kernel_rfl)
    have e42 := ev 20 42 L42 (by kernel_rfl)
    have f42 := val 20 L42
    obtain ⟨A0, c0, h0, r0⟩ := f25
    rw [h0] at e25
    obtain ⟨A2, c2, h2, r2⟩ := f30
    rw [h2] at e30
    obtain ⟨A3, c3, h3, r3⟩ := f34
    rw [h3] at e34
    obtain ⟨A4, c4, h4, r4⟩ := f38
    rw [h4] at e38
    obtain ⟨A5, c5, h5, r5⟩ := f42
    rw [h5] at e42
    have rk := RB.inside hB HPK.out (by rw [HKL.out]; unfold maxLen; omega)
    rw [HKL.out] at rk
    have hT : Texts x x.heap.size [.slice A0 (ls).length c0, .slice (some ⟨w.heap.size, 1, none⟩) k.length 16, .slice A2 (numB no).length c2, .slice A3 (numB st).length c3, .slice A4 (numB en).length c4, .slice A5 (numB fl).length c5] [ls, k, numB no, numB st, numB en, numB fl] := texts6 r0 rk r2 r3 r4 r5
    rw [HKL.out] at hT
    refine Inv.wp_value' (v := .slice (some ⟨x.heap.size, 0, none⟩) 6 6) (w' := x.alloc (.cells (#[.slice A0 (ls).length c0, .slice (some ⟨w.heap.size, 1, none⟩) 16 16, .slice A2 (numB no).length c2, .slice A3 (numB st).length c3, .slice A4 (numB en).length c4, .slice A5 (numB fl).length c5]) 31)) ?_ (hK.out _ _ (grown_alloc x _ none) ⟨_, _, rfl, CB.new x _ [.slice A0 (ls).length c0, .slice (some ⟨w.heap.size, 1, none⟩) 16 16, .slice A2 (numB no).length c2, .slice A3 (numB st).length c3, .slice A4 (numB en).length c4, .slice A5 (numB fl).length c5], (hT.kept (grown_alloc x _ none) (Nat.le_refl _)).more (by rw [World.size_alloc]; omega)⟩)
    clear hK K dep up val ev out hT hB rk hW h0 r0 h2 r2 h3 r3 h4 r4 h5 r5
    generalize a.eval = ρ at *
    (simp [execOp, go_sem, *]; done)
  · refine Inv.duty_plain rfl rfl (fun L vs a x hG dep up val ev out K hK => ?_)
    obtain ⟨hB, hW⟩ := hG
    have ef : ∀ f, a.eval (.func f) = .func (.func f) #[] #[] := fun _ => rfl
    have L22 := dep 0 (by kernel_rfl)
    have e22 := ev 0 22 L22 (by kernel_rfl)
    have f22 := val 0 L22
    have L43 := dep 21 (by kernel_rfl)
    have e43 := ev 21 43 L43 (by kernel_rfl)
    have f43 := val 21 L43
    obtain ⟨TA, tc, h1, r1⟩ := f22
    obtain ⟨g, us, h2, hc2, hT2⟩ := f43
    rw [h1] at e22
    rw [h2] at e43
    refine Inv.wp_call (f := 41) (args := #[.slice TA 6 tc, .slice (some ⟨g, 0, none⟩) 6 6]) (by clear hK K dep up val ev out; generalize a.eval = ρ at *; (simp [execOp, go_sem, *]; done)) ((tjoin_any TA tc g 6 (gFields ls k no st en fl) us x.heap.size x rfl (by omega) (by omega) r1 hT2 (Nat.le_refl _) hc2.lt (fun j u hu => hc2.at_ hu) HTG.out HTO.out).mono ?_)
    rw [HJ.out]
    rintro e w' ⟨v, rfl, o, b⟩
    exact ⟨_, rfl, hK.out _ _ b ⟨v, rfl, o⟩⟩
  · refine Inv.duty_plain rfl rfl (fun L vs a x hG dep up val ev out K hK => ?_)
    obtain ⟨hB, hW⟩ := hG
    have L44 := dep 22 (by kernel_rfl)
    have e44 := ev 22 44 L44 (by kernel_rfl)
    have f44 := val 22 L44
    obtain ⟨u, h1, r1⟩ := f44
    rw [h1] at e44
    refine Inv.wp_value (v := u) ?_ (hK.out _ _ (World.grownBy.refl x _) r1)
    clear hK K dep up val ev out
    generalize a.eval = ρ at *
    (simp [execOp, go_sem, *]; done)
  · refine Inv.duty_plain rfl rfl (fun L vs a x hG dep up val ev out K hK => ?_)
    obtain ⟨hB, hW⟩ := hG
    have L44 := dep 22 (by kernel_rfl)
    have e44 := ev 22 44 L44 (by kernel_rfl)
    have f44 := val 22 L44
    obtain ⟨u, h1, r1⟩ := f44
    rw [h1] at e44
    refine Inv.wp_value (v := .int .i64 0) ?_ (hK.out _ _ (World.grownBy.refl x _) rfl)
    clear hK K dep up val ev out
    generalize a.eval = ρ at *
    (simp [execOp, go_sem, *]; done)
  · refine Inv.duty_plain rfl rfl (fun L vs a x hG dep up val ev out K hK => ?_)
    obtain ⟨hB, hW⟩ := hG
    have L45 := dep 23 (by kernel_rfl)
    have e45 := ev 23 45 L45 (by kernel_rfl)
    have f45 := val 23 L45
    refine Inv.wp_value (v := vs 23) ?_ (hK.out _ _ (World.grownBy.refl x _) f45)
    clear hK K dep up val ev out
    generalize a.eval = ρ at *
    (simp [execOp, go_sem, *]; done)
  · refine Inv.duty_plain rfl rfl (fun L vs a x hG dep up val ev out K hK => ?_)
    obtain ⟨hB, hW⟩ := hG
    have L46 := dep 24 (by kernel_rfl)
    have e46 : a.eval (.tmp 46) = .int .i64 0 := (ev 24 46 L46 (by kernel_rfl)).trans (val 24 L46)
    refine Inv.wp_value (v := .int .i64 0) ?_ (hK.out _ _ (World.grownBy.refl x _) rfl)
    clear hK K dep up val ev out
    generalize a.eval = ρ at *
    (simp [execOp, go_sem, *]; done)
  intro vs w' hG hv
  have hA : IsB w' (vs 25) (bytesF (gFields ls k no st en fl)) := hv 25 (by omega)
  have hZ : vs 26 = .int .i64 0 := hv 26 (by omega)
  simp only [Inv.putAll, Act.put, List.setIfInBounds_toArray, List.set_cons_zero, List.set_cons_succ, Nat.zero_add, Nat.reduceAdd]
  rw [hZ]
  clear hv
  generalize vs 25 = vA at *
  have HR := Lib.hid hA
  have HG := Lib.hid hG.2
  clear hA hZ hG
  go_wp2
  go_ret2
  exact ⟨_, rfl, HR.out, HG.out⟩
theorem gwrite_any (s : ByteArray) (ls k : List UInt8) (st en fl : Int) (no : Nat) (w : World) (hM : ML w) (hds : s.data.toList = ls) (hk : k.length = 16) (hls : ls.length ≤ 1000000) (hno : no < 18446744073709551616) :
    Calls Tryd.prog 27 #[.agg (gcells s k (no : Int) (st : Int) (en : Int) (fl : Int)).toArray] w fun e w' => Wrote w (gOk ls st en fl) (bytesF (gFields ls k no st.toNat en.toNat fl.toNat)) e w' := by
  unfold gOk
  rcases bool_cases (b := parses ls) with h0 | h0
  · rw [h0, Bool.true_and]
    rcases bool_cases (b := spanOk st en) with h1 | h1
    · rw [h1, Bool.true_and]
      rcases bool_cases (b := flagsOk fl) with h2 | h2
      · have hz : 0 ≤ st ∧ 0 ≤ en ∧ 0 ≤ fl := by
          simp only [spanOk, timeOk, flagsOk, Bool.and_eq_true, decide_eq_true_eq] at h1 h2
          omega
        obtain ⟨mst, rfl⟩ := Int.eq_ofNat_of_zero_le (show 0 ≤ st by omega)
        obtain ⟨men, rfl⟩ := Int.eq_ofNat_of_zero_le (show 0 ≤ en by omega)
        obtain ⟨mfl, rfl⟩ := Int.eq_ofNat_of_zero_le (show 0 ≤ fl by omega)
        rw [h2]
        refine (gwrite_yes s ls k no mst men mfl w hM hds hk h0 h1 h2 hno).mono fun e w' h => ?_
        obtain ⟨v, rfl, hb, hg⟩ := h
        exact Wrote.yes hb hg
      · refine (gwrite_no2 s ls k no st en fl w hM hds hk hls h0 h1 h2).mono fun e w' h => ?_
        rw [h2]
        exact Wrote.no h.1 h.2
    · refine (gwrite_no1 s ls k no st en fl w hM hds hk hls h0 h1).mono fun e w' h => ?_
      rw [h1, Bool.false_and]
      exact Wrote.no h.1 h.2
  · refine (gwrite_no0 s ls k no st en fl w hM hds hk hls h0).mono fun e w' h => ?_
    rw [h0, Bool.false_and]
    exact Wrote.no h.1 h.2
end Go.Proofs.YtfpcabfpnekejaaDoor
