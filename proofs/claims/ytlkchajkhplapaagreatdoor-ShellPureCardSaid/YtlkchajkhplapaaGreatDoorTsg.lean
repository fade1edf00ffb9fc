/- The walks of speaks, TreeOwner. -/
import Derived.Test.YtlkchajkhplapaaGreatDoorTsd
import Derived.Deep.Slices
import Derived.Deep.Fields
import Derived.ProofKit
namespace Go.Proofs.YtlkchajkhplapaaGreatDoor
open Go.RowKit Go.Maps Go.WideMaps

def annB : ByteArray := ⟨#[97, 110, 110]⟩
def bobB : ByteArray := ⟨#[98, 111, 98]⟩
def usersP : List UInt8 := [47, 117, 115, 101, 114, 115]
def userxP : List UInt8 := [47, 117, 115, 101, 114, 115, 47, 120]
section
variable (b0 b1 : Nat) (v0 v1 : Value)
theorem sp_mk1 : mkdirC [([47], ⟨b0, true, rootB, 61, v0⟩)] rootB usersP 61 = 0 := by kernel_rfl
theorem sp_mk2 : mkdirC [([47], ⟨b0, true, rootB, 61, v0⟩), (usersP, ⟨b1, true, rootB, 61, v1⟩)] annB userxP 61 = 114 := by kernel_rfl
theorem sp_give : giveR [([47], ⟨b0, true, rootB, 61, v0⟩), (usersP, ⟨b1, true, rootB, 61, v1⟩)] rootB usersP = (0, some ⟨b1, true, rootB, 61, v1⟩) := by kernel_rfl
theorem sp_mk3 : mkdirC [([47], ⟨b0, true, rootB, 61, v0⟩), (usersP, ⟨b1, true, annB, 61, v1⟩)] annB userxP 61 = 0 := by kernel_rfl
end

set_option maxRecDepth 10000 in
set_option maxHeartbeats 4000000 in
theorem speaks_any (w : World) : Calls Tryz.prog 13 #[] w fun e w' => e = .returned (.bool true) ∧ w.grownBy w' none := by
  have TK0 := Lib.hid True.intro
  go_enter Tryz.func13, Tryz.ntmps13
  go_wp2_with (first
    | (have hx := TK0; go_at_call 15; refine (TG.new _).mono ?_; rintro e w0 ⟨tb, mb, b0, v0, rfl, t0, g0⟩; have T0 := Lib.hid (t0); clear t0 g0; clear hx TK0; have TK1 := Lib.hid True.intro)
    | (have hx := TK1; go_at_call 23; refine (g_mkdir_ok T0.out ⟨_, rfl⟩ ⟨#[114, 111, 111, 116]⟩ ⟨#[47, 117, 115, 101, 114, 115]⟩ (by decide) usersP rfl (by decide) 61 (sp_mk1 b0 v0)).mono ?_; rintro e w1 ⟨rfl, b1, v1, t⟩; have T1 := Lib.hid t; clear t; clear hx TK1; have TK2 := Lib.hid True.intro)
    | (have hx := TK2; go_at_call 23; refine (g_mkdir_no T1.out ⟨_, rfl⟩ (by simp) ⟨#[97, 110, 110]⟩ ⟨#[47, 117, 115, 101, 114, 115, 47, 120]⟩ userxP rfl (by decide) 61 114 (sp_mk2 b0 b1 v0 v1) (by decide)).mono ?_; rintro e w2 ⟨rfl, t, kp⟩; have T2 := Lib.hid t; have K2 := Lib.hid kp; clear t kp; clear hx TK2; have TK3 := Lib.hid True.intro)
    | (have hx := TK3; go_at_call 21; refine (g_give_ok T2.out ⟨#[114, 111, 111, 116]⟩ ⟨#[47, 117, 115, 101, 114, 115]⟩ ⟨#[97, 110, 110]⟩ usersP rfl (by decide) (by decide) _ (sp_give b0 b1 v0 v1) (by simp [usersP]; rfl)).mono ?_; rintro e w3 ⟨rfl, t, kp⟩; have T3 := Lib.hid t; clear t kp; clear hx TK3; have TK4 := Lib.hid True.intro)
    | (have hx := TK4; go_at_call 23; refine (g_mkdir_ok T3.out ⟨_, rfl⟩ ⟨#[97, 110, 110]⟩ ⟨#[47, 117, 115, 101, 114, 115, 47, 120]⟩ (by decide) userxP rfl (by decide) 61 (sp_mk3 b0 b1 v0 v1)).mono ?_; rintro e w4 ⟨rfl, b2, v2, t⟩; have T4 := Lib.hid t; clear t; clear hx TK4; have TK5 := Lib.hid True.intro))
  go_ret
  exact ⟨rfl, T4.out.gr⟩
end Go.Proofs.YtlkchajkhplapaaGreatDoor
namespace Go.Proofs.YtlkchajkhplapaaGreatDoor
open Go.RowKit Go.Maps Go.WideMaps

theorem and_low (k : Int) (j : Nat) (hj : j ≤ 62) : ∃ m : Nat, m < 2 ^ j ∧ bits .and .i64 k ((2 ^ j - 1 : Nat) : Int) = (m : Int) := by
  have hp : 2 ^ j ≤ 2 ^ 62 := Nat.pow_le_pow_right (by decide) hj
  have h2 : (2 : Nat) ^ 62 = 4611686018427387904 := by decide
  refine ⟨(BitVec.ofInt 64 k).toNat % 2 ^ j, Nat.mod_lt _ (Nat.two_pow_pos j), ?_⟩
  have hb : (BitVec.ofInt 64 (((2 ^ j - 1 : Nat) : Int))).toNat = 2 ^ j - 1 := by
    rw [BitVec.ofInt_natCast, BitVec.toNat_ofNat]
    exact Nat.mod_eq_of_lt (by omega)
  have hm := Nat.mod_lt (BitVec.ofInt 64 k).toNat (Nat.two_pow_pos j)
  show IntKind.i64.wrap (((BitVec.ofInt 64 k &&& BitVec.ofInt 64 ((2 ^ j - 1 : Nat) : Int)).toNat : Nat) : Int) = _
  rw [BitVec.toNat_and, hb, Nat.and_two_pow_sub_one_eq_mod, IntKind.wrap_i64]
  omega
theorem strTy : Tryz.prog.underlying 9 = some .string := Tryz.underlying9
theorem conv_rb {w : World} {B : Nat} {A : Option Addr} {l : List UInt8} {c k : Nat} (h : RB w B A l c) (hk : l.length = k) : (convert 29 9 (.slice A k c)).run Tryz.prog w = .ok (.string ⟨l.toArray⟩) w := by
  subst hk
  exact run_strB byteT strTy h
theorem conv_own {w : World} {A : Option Addr} {l : List UInt8} {c k : Nat} (h : OwnB w 0 5 (.slice A k c) l) (hk : l.length = k) : (convert 29 9 (.slice A k c)).run Tryz.prog w = .ok (.string ⟨l.toArray⟩) w := by
  obtain ⟨A', c', e, hr, -⟩ := h.shape
  simp only [Value.slice.injEq] at e
  obtain ⟨rfl, -, rfl⟩ := e
  exact conv_rb hr hk
def pD : List UInt8 := [47, 100]
def pF : List UInt8 := [47, 100, 47, 102]
section
variable (b0 b1 b2 : Nat) (v0 v1 v2 : Value) (q : Nat)
theorem ow_mk : mkdirC [([47], ⟨b0, true, rootB, 61, v0⟩)] rootB pD 63 = 0 := by kernel_rfl
theorem writeC_put {M : List (List UInt8 × Nd)} {who : ByteArray} {p : List UInt8} {k : Nat} {m : Int} (h : (comeR M who p).2 = 0) (hm : 0 ≤ m ∧ m ≤ 63) (hk : k ≤ 1000) (hl : M.lookup p = none) (ha : addC M who p = 0) : writeC M who p k m = 0 := by
  unfold writeC
  rw [h, if_neg (by decide), if_neg (by simpa using hm), if_neg (by omega), hl]
  exact ha
theorem ow_out : List.lookup pF [([47], (⟨b0, true, rootB, 61, v0⟩ : Nd)), (pD, ⟨b1, true, rootB, 63, v1⟩)] = none := by kernel_rfl
theorem ow_wr (m : Int) (hm : 0 ≤ m ∧ m ≤ 63) (k : Nat) (hk : k ≤ 1000) : writeC [([47], ⟨b0, true, rootB, 61, v0⟩), (pD, ⟨b1, true, rootB, 63, v1⟩)] annB pF k m = 0 :=
  writeC_put (by kernel_rfl) hm hk (by kernel_rfl) (by kernel_rfl)
theorem ow_r1 (hq : q ≤ 7) : readR [([47], ⟨b0, true, rootB, 61, v0⟩), (pD, ⟨b1, true, rootB, 63, v1⟩), (pF, ⟨b2, false, annB, q, v2⟩)] annB pF = (none, 114) := by
  rcases (show q = 0 ∨ q = 1 ∨ q = 2 ∨ q = 3 ∨ q = 4 ∨ q = 5 ∨ q = 6 ∨ q = 7 by omega) with rfl | rfl | rfl | rfl | rfl | rfl | rfl | rfl <;> kernel_rfl
theorem ow_w2 (hq : q ≤ 7) : writeC [([47], ⟨b0, true, rootB, 61, v0⟩), (pD, ⟨b1, true, rootB, 63, v1⟩), (pF, ⟨b2, false, annB, q, v2⟩)] annB pF 0 0 = 114 := by
  rcases (show q = 0 ∨ q = 1 ∨ q = 2 ∨ q = 3 ∨ q = 4 ∨ q = 5 ∨ q = 6 ∨ q = 7 by omega) with rfl | rfl | rfl | rfl | rfl | rfl | rfl | rfl <;> kernel_rfl
theorem ow_cb : chmodR [([47], ⟨b0, true, rootB, 61, v0⟩), (pD, ⟨b1, true, rootB, 63, v1⟩), (pF, ⟨b2, false, annB, q, v2⟩)] bobB pF 63 = (114, none) := by kernel_rfl
theorem ow_ca : chmodR [([47], ⟨b0, true, rootB, 61, v0⟩), (pD, ⟨b1, true, rootB, 63, v1⟩), (pF, ⟨b2, false, annB, q, v2⟩)] annB pF (56 : Nat) = (0, some ⟨b2, false, annB, q, v2⟩) := by kernel_rfl
theorem ow_in : (pF, (⟨b2, false, annB, q, v2⟩ : Nd)) ∈ [([47], (⟨b0, true, rootB, 61, v0⟩ : Nd)), (pD, ⟨b1, true, rootB, 63, v1⟩), (pF, ⟨b2, false, annB, q, v2⟩)] := by simp
theorem ow_r3 : readR (turn pF (fun x => { x with mode := 56 }) [([47], ⟨b0, true, rootB, 61, v0⟩), (pD, ⟨b1, true, rootB, 63, v1⟩), (pF, ⟨b2, false, annB, q, v2⟩)]) annB pF = (some ⟨b2, false, annB, 56, v2⟩, 0) := by kernel_rfl
theorem ow_r4 : readR (turn pF (fun x => { x with mode := 56 }) [([47], ⟨b0, true, rootB, 61, v0⟩), (pD, ⟨b1, true, rootB, 63, v1⟩), (pF, ⟨b2, false, annB, q, v2⟩)]) bobB pF = (none, 114) := by kernel_rfl
end

end Go.Proofs.YtlkchajkhplapaaGreatDoor
namespace Go.Proofs.YtlkchajkhplapaaGreatDoor
open Go.RowKit Go.Maps Go.WideMaps

section
variable {w0 w : World} {tb mb : Nat} {M : List (List UInt8 × Nd)}
theorem g_remove_ok (h : TG w0 w tb mb M) (who s : ByteArray) (p : List UInt8) (hp : s.data.toList = p) (hs : p.length ≤ 100000) (hc : removeC M who p = 0) (hk : NoKid M p) :
    Calls Tryz.prog 17 #[.pointer (some ⟨tb, 0, none⟩), .string who, .string s] w fun e w' => e = .returned (.int .i64 0) ∧ TG w0 w' tb mb (withoutM M p) :=
  (remove_ok w tb mb M h.ts who s p hp hs hc hk).mono fun _ _ hh => ⟨hh.1, hh.2.1, none_of h.gr hh.2.2 h.b2, h.b1, h.b2, fun q n hq => h.b3 q n (mem_without hq).1⟩
theorem g_nodes (h : TG w0 w tb mb M) (n : Nat) (hn : M.length = n) (hl : n ≤ 1000000) (hsh : Short M) :
    Calls Tryz.prog 29 #[.pointer (some ⟨tb, 0, none⟩)] w fun e w' => ∃ A c, e = .returned (.slice A n c) ∧ TG w0 w' tb mb M := by
  subst hn
  refine (nodes_any w tb mb M h.ts hl hsh).mono ?_
  rintro e w' ⟨v, ks, cs, rfl, hks, hrow, hat, hg⟩
  obtain ⟨A, c, rfl, -, -⟩ := hrow.shape
  refine ⟨A, c, ?_, h.below (below_of_none hg)⟩
  rw [hat.1, hks.1.length_eq]
  unfold keysM
  rw [List.length_map]
theorem f_write_ok {ps : List (List UInt8)} (h : TG w0 w tb mb M) (hf : Flat M ps) (s : ByteArray) (p : List UInt8) (hp : s.data.toList = p) (ho : One p) (hn : p ∉ ps) (m : Nat) (hm : m ≤ 63) (hl : ps.length < 63) :
    Calls Tryz.prog 25 #[.pointer (some ⟨tb, 0, none⟩), .string ⟨#[114, 111, 111, 116]⟩, .string s, .slice none 0 0, .int .i64 m] w fun e w' => e = .returned (.int .i64 0) ∧ ∃ M', TG w0 w' tb mb M' ∧ Flat M' (ps ++ [p]) := by
  have hc := hf.write ho hn 0 (by omega) m (by omega)
  rw [if_neg (by omega)] at hc
  refine (g_write_put h hf.top' rootB s (by decide) p hp (by have := ho.len; omega) none [] 0 0 rfl (RB.nil_ _ _) m hc (hf.out ho hn)).mono ?_
  rintro e w' ⟨rfl, b, v, t, -⟩
  exact ⟨rfl, _, t, hf.put ho _ (show rootB.size ≤ 1000000 by decide)⟩
theorem f_write_no {ps : List (List UInt8)} (h : TG w0 w tb mb M) (hf : Flat M ps) (s : ByteArray) (p : List UInt8) (hp : s.data.toList = p) (ho : One p) (hn : p ∉ ps) (m : Nat) (hm : m ≤ 63) (hl : 63 ≤ ps.length) (hl2 : ps.length ≤ 100) :
    Calls Tryz.prog 25 #[.pointer (some ⟨tb, 0, none⟩), .string ⟨#[114, 111, 111, 116]⟩, .string s, .slice none 0 0, .int .i64 m] w fun e w' => e = .returned (.int .i64 2) ∧ TG w0 w' tb mb M := by
  have hc := hf.write ho hn 0 (by omega) m (by omega)
  rw [if_pos hl] at hc
  exact (g_write_no h hf.top' (by rw [hf.len]; omega) rootB s p hp (by have := ho.len; omega) none 0 0 m 2 hc (by decide)).mono fun _ _ hh => ⟨hh.1, hh.2.1⟩
theorem f_mkdir_ok {ps : List (List UInt8)} (h : TG w0 w tb mb M) (hf : Flat M ps) (s : ByteArray) (p : List UInt8) (hp : s.data.toList = p) (ho : One p) (hn : p ∉ ps) (m : Nat) (hm : m ≤ 63) (hl : ps.length < 63) :
    Calls Tryz.prog 23 #[.pointer (some ⟨tb, 0, none⟩), .string ⟨#[114, 111, 111, 116]⟩, .string s, .int .i64 m] w fun e w' => e = .returned (.int .i64 0) ∧ ∃ M', TG w0 w' tb mb M' ∧ Flat M' (ps ++ [p]) := by
  have hc := hf.mkdir ho hn m (by omega)
  rw [if_neg (by omega)] at hc
  refine (g_mkdir_ok h hf.top' rootB s (by decide) p hp (by have := ho.len; omega) m hc).mono ?_
  rintro e w' ⟨rfl, b, v, t⟩
  exact ⟨rfl, _, t, hf.put ho _ (show rootB.size ≤ 1000000 by decide)⟩
theorem f_mkdir_no {ps : List (List UInt8)} (h : TG w0 w tb mb M) (hf : Flat M ps) (s : ByteArray) (p : List UInt8) (hp : s.data.toList = p) (ho : One p) (hn : p ∉ ps) (m : Nat) (hm : m ≤ 63) (hl : 63 ≤ ps.length) (hl2 : ps.length ≤ 100) :
    Calls Tryz.prog 23 #[.pointer (some ⟨tb, 0, none⟩), .string ⟨#[114, 111, 111, 116]⟩, .string s, .int .i64 m] w fun e w' => e = .returned (.int .i64 2) ∧ TG w0 w' tb mb M := by
  have hc := hf.mkdir ho hn m (by omega)
  rw [if_pos hl] at hc
  exact (g_mkdir_no h hf.top' (by rw [hf.len]; omega) rootB s p hp (by have := ho.len; omega) m 2 hc (by decide)).mono fun _ _ hh => ⟨hh.1, hh.2.1⟩
theorem f_remove_ok {ps : List (List UInt8)} (h : TG w0 w tb mb M) (hf : Flat M ps) (s : ByteArray) (p : List UInt8) (hp : s.data.toList = p) (ho : One p) (hn : p ∈ ps) :
    Calls Tryz.prog 17 #[.pointer (some ⟨tb, 0, none⟩), .string ⟨#[114, 111, 111, 116]⟩, .string s] w fun e w' => e = .returned (.int .i64 0) ∧ ∃ M', TG w0 w' tb mb M' ∧ Flat M' (ps.filter fun x => decide (x ≠ p)) :=
  (g_remove_ok h rootB s p hp (by have := ho.len; omega) (hf.remove ho hn) (hf.noKid ho.ne)).mono fun _ _ hh => ⟨hh.1, _, hh.2, hf.del ho.ne⟩
end
end Go.Proofs.YtlkchajkhplapaaGreatDoor
namespace Go.Proofs.YtlkchajkhplapaaGreatDoor
open Go.ChangeShapes Go.WideShapes Go.RowKit

theorem RB.of_cells {w : World} {x : Addr} {len cap : Nat} {zs : List Int} (hl : len ≤ cap) (hm : cap ≤ maxLen) (hz : len ≤ zs.length) (hc : ∀ i, i < zs.length → w.cell? (x.add i) = some (.int .u8 (zs.getD i 0))) (hw : ∀ n ∈ zs, (Lit.int .u8 n).wf = true) :
    ∃ l : List UInt8, l.length = len ∧ RB w w.heap.size (some x) l cap := by
  have hlen : ((zs.take len).map fun n => UInt8.ofNat n.toNat).length = len := by simp; omega
  refine ⟨(zs.take len).map fun n => UInt8.ofNat n.toNat, hlen, by omega, hm, .inr ⟨x, rfl, fun k u hu => ?_⟩⟩
  have hk : k < len := by rw [← hlen]; exact (List.getElem?_eq_some_iff.1 hu).1
  have hkz : k < zs.length := by omega
  have hcell := hc k hkz
  rw [List.getElem?_map, List.getElem?_take_of_lt hk, List.getElem?_eq_getElem hkz] at hu
  have hb : zs.getD k 0 = zs[k] := by simp [List.getD, List.getElem?_eq_getElem hkz]
  rw [hb] at hcell
  have hx := bounds_u8 (hw zs[k] (List.getElem_mem hkz))
  have hlt := World.block_lt_of_cell? w _ hcell
  rw [add_block] at hlt
  simp only [Option.map_some, Option.some.injEq] at hu
  subst hu
  refine ⟨hlt, hcell.trans ?_⟩
  congr 2
  exact u8_of (by omega)

section
variable {H : Type} {enc : TypeId × Value → H} {w : World} {base : Nat} {spare : Nat → Bool} {held : Bool}
theorem bytes_of_trod {fuel : Nat} {v : Value} {x : DataW H × List MemPlace}
    (h : DataW.trod enc Tryz.prog w base spare held fuel 29 [v] = some x) : ∃ V l c, v = .slice V l.length c ∧ RB w w.heap.size V l c := by
  rcases open_ints Tryz.underlying29 Tryz.underlying5 (by kernel_rfl) h with ⟨hcs, _⟩ | ⟨a, n, c, zs, hcs, _, hl, hm, hz, _, hcell, hwz⟩
  · simp only [List.cons.injEq, and_true] at hcs
    exact ⟨none, [], 0, hcs, RB.nil_ _ _⟩
  · simp only [List.cons.injEq, and_true] at hcs
    obtain ⟨l, hll, hr⟩ := RB.of_cells hl hm (by rw [hz]; split <;> omega) hcell hwz
    exact ⟨some a, l, c, by rw [hcs, hll], hr⟩

end
/-- One call of a script. -/
structure Op8 where
  k : Int
  m : Int
  who : ByteArray
  path : ByteArray
  own : ByteArray
  fb : List UInt8
instance : Inhabited Op8 := ⟨⟨0, 0, ⟨#[]⟩, ⟨#[]⟩, ⟨#[]⟩, []⟩⟩
def Op8.ok (o : Op8) : Prop := (-9223372036854775808 ≤ o.k ∧ o.k ≤ 9223372036854775807) ∧ -9223372036854775808 ≤ o.m ∧ o.m ≤ 9223372036854775807
def opC (o : Op8) (u : Value) : List Value := [.int .i64 o.k, .int .i64 o.m, .string o.who, .string o.path, .string o.own, u]
/-- The slice at A reads as these calls. -/
def RO (w : World) (B : Nat) (A : Option Addr) (os : List Op8) (cap : Nat) : Prop :=
  os.length ≤ cap ∧ cap ≤ maxLen ∧ ((A = none ∧ cap = 0) ∨ ∃ a, A = some a ∧ ∀ k o, os[k]? = some o → a.block < B ∧ ∃ V c, (∀ j x, (opC o (.slice V o.fb.length c))[j]? = some x → w.cell? (a.add (k * 6 + j)) = some x) ∧ RB w B V o.fb c)
section
variable {w w' : World} {B B' cap : Nat} {A : Option Addr} {os : List Op8}
theorem RO.nil_ (w : World) (B : Nat) : RO w B none [] 0 := ⟨Nat.le_refl _, Nat.zero_le _, .inl ⟨rfl, rfl⟩⟩
theorem RO.below (h : RO w B A os cap) (hb : Below B w w') : RO w' B A os cap :=
  ⟨h.1, h.2.1, h.2.2.imp id fun ⟨a, hA, hc⟩ => ⟨a, hA, fun k o ho => by
    obtain ⟨h1, V, c, h2, h3⟩ := hc k o ho
    exact ⟨h1, V, c, fun j x hx => (hb.cell (p := a.add (k * 6 + j)) (by rw [add_block]; exact h1)).trans (h2 j x hx), h3.below hb⟩⟩⟩
theorem RO.more (h : RO w B A os cap) (hB : B ≤ B') : RO w B' A os cap :=
  ⟨h.1, h.2.1, h.2.2.imp id fun ⟨a, hA, hc⟩ => ⟨a, hA, fun k o ho => by
    obtain ⟨h1, V, c, h2, h3⟩ := hc k o ho
    exact ⟨Nat.lt_of_lt_of_le h1 hB, V, c, h2, h3.more hB⟩⟩⟩
theorem RO.open_ (h : RO w B A os cap) (hp : 0 < os.length) :
    ∃ b off, A = some ⟨b, off, none⟩ ∧ b < B ∧ ∀ k o, os[k]? = some o → ∃ V c, w.cell? ⟨b, off + k * 6, none⟩ = some (.int .i64 o.k) ∧ w.cell? ⟨b, off + k * 6 + 1, none⟩ = some (.int .i64 o.m) ∧ w.cell? ⟨b, off + k * 6 + 2, none⟩ = some (.string o.who) ∧
      w.cell? ⟨b, off + k * 6 + 3, none⟩ = some (.string o.path) ∧ w.cell? ⟨b, off + k * 6 + 4, none⟩ = some (.string o.own) ∧ w.cell? ⟨b, off + k * 6 + 5, none⟩ = some (.slice V o.fb.length c) ∧ RB w B V o.fb c := by
  rcases h.2.2 with ⟨_, h0⟩ | ⟨⟨b, off, s⟩, hA, hc⟩
  · have := h.1; omega
  · obtain ⟨hb, V, c, h0, -⟩ := hc 0 _ (List.getElem?_eq_getElem hp)
    have hs : s = none := by simpa [Addr.add] using World.cell?_spot (h0 0 _ rfl)
    subst hs
    refine ⟨b, off, hA, hb, fun k o ho => ?_⟩
    obtain ⟨_, V, c, h1, h2⟩ := hc k o ho
    have q := fun j x hx => h1 j x hx
    simp only [Addr.add_lit, ← Nat.add_assoc] at q
    exact ⟨V, c, q 0 _ rfl, q 1 _ rfl, q 2 _ rfl, q 3 _ rfl, q 4 _ rfl, q 5 _ rfl, h2⟩
end

section
variable {H : Type} {enc : TypeId × Value → H} {w : World} {base : Nat} {spare : Nat → Bool} {held : Bool}
set_option maxRecDepth 100000 in
theorem op8_of_trod {fuel : Nat} {cs : List Value} {x : DataW H × List MemPlace}
    (h : DataW.trod enc Tryz.prog w base spare held fuel 31 cs = some x) : ∃ (o : Op8) (V : Option Addr) (c : Nat), cs = opC o (.slice V o.fb.length c) ∧ RB w w.heap.size V o.fb c ∧ o.ok := by
  obtain ⟨xs, n, _, _, hlen, hxl, hf⟩ := DataW.trod_struct Tryz.underlying31 h
  have hC : Tryz.prog.cellsOf 31 = 6 := by kernel_rfl
  have hCi : Tryz.prog.cellsOf 3 = 1 := by kernel_rfl
  have hCs : Tryz.prog.cellsOf 9 = 1 := by kernel_rfl
  have hCb : Tryz.prog.cellsOf 29 = 1 := by kernel_rfl
  rw [hC] at hlen
  match cs, hlen with
  | [c0, c1, c2, c3, c4, c5], _ =>
    match xs, hxl with
    | [y0, y1, y2, y3, y4, y5], _ =>
      have h0 := hf 0 _ rfl
      have h1 := hf 1 _ rfl
      have h2 := hf 2 _ rfl
      have h3 := hf 3 _ rfl
      have h4 := hf 4 _ rfl
      have h5 := hf 5 _ rfl
      change DataW.trod enc Tryz.prog w base spare held n 3 (List.take (Tryz.prog.cellsOf 3) (List.drop 0 [c0, c1, c2, c3, c4, c5])) = some y0 at h0
      change DataW.trod enc Tryz.prog w base spare held n 3 (List.take (Tryz.prog.cellsOf 3) (List.drop 1 [c0, c1, c2, c3, c4, c5])) = some y1 at h1
      change DataW.trod enc Tryz.prog w base spare held n 9 (List.take (Tryz.prog.cellsOf 9) (List.drop 2 [c0, c1, c2, c3, c4, c5])) = some y2 at h2
      change DataW.trod enc Tryz.prog w base spare held n 9 (List.take (Tryz.prog.cellsOf 9) (List.drop 3 [c0, c1, c2, c3, c4, c5])) = some y3 at h3
      change DataW.trod enc Tryz.prog w base spare held n 9 (List.take (Tryz.prog.cellsOf 9) (List.drop 4 [c0, c1, c2, c3, c4, c5])) = some y4 at h4
      change DataW.trod enc Tryz.prog w base spare held n 29 (List.take (Tryz.prog.cellsOf 29) (List.drop 5 [c0, c1, c2, c3, c4, c5])) = some y5 at h5
      rw [hCi] at h0 h1
      rw [hCs] at h2 h3 h4
      rw [hCb] at h5
      simp only [List.drop_zero, List.drop_succ_cons, List.take_succ_cons, List.take_zero] at h0 h1 h2 h3 h4 h5
      obtain ⟨t0, e0, _, w0⟩ := DataW.trod_int Tryz.underlying3 h0
      obtain ⟨t1, e1, _, w1⟩ := DataW.trod_int Tryz.underlying3 h1
      obtain ⟨t2, e2, _, w2⟩ := DataW.trod_string Tryz.underlying9 h2
      obtain ⟨t3, e3, _, w3⟩ := DataW.trod_string Tryz.underlying9 h3
      obtain ⟨t4, e4, _, w4⟩ := DataW.trod_string Tryz.underlying9 h4
      obtain ⟨V, l, c, e5, hr⟩ := bytes_of_trod h5
      simp only [List.cons.injEq, and_true] at e0 e1 e2 e3 e4
      subst e0 e1 e2 e3 e4 e5
      exact ⟨⟨t0, t1, t2, t3, t4, l⟩, V, c, rfl, hr, bounds_i64 w0, bounds_i64 w1⟩

theorem ops19_of_trod {A : Option Addr} {len cap : Nat} {d : DataW H} {p : List MemPlace} (h : DataW.Trod enc Tryz.prog w base spare held 22 (.slice A len cap) d p) :
    ∃ os : List Op8, os.length = len ∧ RO w w.heap.size A os cap ∧ ∀ o ∈ os, o.ok := by
  obtain ⟨fuel, hf⟩ := h
  rcases Go.Deep.open_slice Tryz.underlying22 hf with ⟨hcs, _⟩ | ⟨a, n, c, m, q, D, Pl, hcs, _, hl, hm, hmm, _, hx⟩
  · simp [Value.cells] at hcs
    obtain ⟨rfl, rfl, rfl⟩ := hcs
    exact ⟨[], rfl, RO.nil_ _ _, fun f hf => by cases hf⟩
  · simp [Value.cells] at hcs
    obtain ⟨rfl, rfl, rfl⟩ := hcs
    have hC : Tryz.prog.cellsOf 31 = 6 := by kernel_rfl
    have hml : len ≤ m := by rw [hmm]; split <;> omega
    obtain ⟨F, hF⟩ := Go.Deep.choose_lt (α := Op8) (n := len) (p := fun i o => (a.block < w.heap.size ∧ ∃ V c, (∀ j x, (opC o (.slice V o.fb.length c))[j]? = some x → w.cell? (a.add (i * 6 + j)) = some x) ∧ RB w w.heap.size V o.fb c) ∧ o.ok) (fun i hi => by
      obtain ⟨cs', h1, h2⟩ := hx i (by omega)
      obtain ⟨o, V, c, rfl, hr, hok⟩ := op8_of_trod h2
      rw [hC] at h1
      obtain ⟨_, _, hat⟩ := World.cells?_some h1
      have e0 := hat 0 (by simp)
      rw [add_add_] at e0
      have hlt := World.block_lt_of_cell? w _ e0
      rw [add_block] at hlt
      refine ⟨o, ⟨hlt, V, c, fun j x hj => ?_, hr⟩, hok⟩
      have hjl := (List.getElem?_eq_some_iff.1 hj).1
      have e := hat j hjl
      rw [add_add_] at e
      rw [e]
      exact hj)
    refine ⟨(List.range len).map F, by simp, ⟨by simp; omega, hm, .inr ⟨a, rfl, fun k f hf => ?_⟩⟩, fun f hf => ?_⟩
    · rw [List.getElem?_map] at hf
      obtain ⟨k', hk', rfl⟩ := Option.map_eq_some_iff.1 hf
      have hk := (List.getElem?_eq_some_iff.1 hk').1
      simp at hk
      rw [List.getElem?_range hk] at hk'
      injection hk' with hk'
      subst hk'
      exact (hF k hk).1
    · obtain ⟨k, hk, rfl⟩ := List.mem_map.1 hf
      exact (hF k (by simpa using hk)).2
end
/-- Too much. -/
def bigOp (o : Op8) : Bool := decide (1500 < o.fb.length) || decide (300 < o.path.size) || decide (100 < o.who.size) || decide (100 < o.own.size)
def great8 (os : List Op8) : Bool := decide (100 < os.length) || os.any bigOp
structure SmallOp (o : Op8) : Prop where
  fb : o.fb.length ≤ 1500
  path : o.path.size ≤ 300
  who : o.who.size ≤ 100
  own : o.own.size ≤ 100
theorem bigOp_no {o : Op8} (h : bigOp o = false) : SmallOp o := by
  unfold bigOp at h
  simp at h
  exact ⟨h.1.1.1, h.1.1.2, h.1.2, h.2⟩
theorem great8_no {os : List Op8} (h : great8 os = false) : os.length ≤ 100 ∧ ∀ o ∈ os, SmallOp o := by
  unfold great8 at h
  rw [Bool.or_eq_false_iff] at h
  refine ⟨by simpa using h.1, fun o ho => bigOp_no ?_⟩
  cases hb : bigOp o with
  | false => rfl
  | true => exact absurd (List.any_eq_true.2 ⟨o, ho, hb⟩) (by rw [h.2]; decide)
set_option maxRecDepth 10000 in
set_option maxHeartbeats 4000000 in
theorem great_any (w : World) (A : Option Addr) (os : List Op8) (n cap : Nat) (hn : os.length = n) (h : RO w w.heap.size A os cap) :
    Calls Tryz.prog 14 #[.slice A n cap] w fun e w' => e = .returned (.bool (great8 os)) ∧ w.grownBy w' none := by
  have H := Lib.hid h
  have HN := Lib.hid hn
  have hnl : n ≤ 9223372036854775807 := by have := h.1; have := h.2.1; unfold maxLen at this; omega
  by_cases h80 : 100 < n
  · have hi : (100 : Int) < (n : Int) := by omega
    have hg : great8 os = true := by unfold great8; rw [hn, decide_eq_true h80]; rfl
    rw [hg]
    clear h hn h80 hg
    go_enter Tryz.func14, Tryz.ntmps14
    go_wp2
    go_ret
    exact ⟨rfl, World.grownBy.refl _ _⟩
  have hi : ¬ (100 : Int) < (n : Int) := by omega
  have hg : great8 os = os.any bigOp := by unfold great8; rw [hn, decide_eq_false h80]; rfl
  rw [hg]
  obtain ⟨gb, hgb⟩ : ∃ gb, os.any bigOp = gb := ⟨_, rfl⟩
  have HGB := Lib.hid hgb
  rw [hgb]
  clear h hn hg hgb
  go_enter Tryz.func14, Tryz.ntmps14
  go_wp2
  go_loopw [10] (fun i wr => ∃ k : Nat, i = .int .i64 k ∧ k ≤ n ∧ Hid ((os.take k).any bigOp = false) ∧ w.grownBy wr none) (fun i _ => n - (intOf i).toNat)
  case atStart => exact ⟨0, rfl, Nat.zero_le _, (rfl : (os.take 0).any bigOp = false), World.grownBy.refl _ _⟩
  case round =>
    obtain ⟨k, rfl, hk, hno, hg⟩ := hrel
    by_cases hlt : k < n
    · obtain ⟨b, off, rfl, hb, hc⟩ := H.out.open_ (by rw [HN.out]; omega)
      obtain ⟨o, ho⟩ : ∃ o, os[k]? = some o := ⟨_, List.getElem?_eq_getElem (by rw [HN.out]; exact hlt)⟩
      obtain ⟨V, c, r0, r1, r2, r3, r4, r5, hr⟩ := hc k o ho
      have be := below_of_none hg
      have q0 := (be.cell (p := ⟨b, off + k * 6, none⟩) hb).trans r0
      have q1 := (be.cell (p := ⟨b, off + k * 6 + 1, none⟩) hb).trans r1
      have q2 := (be.cell (p := ⟨b, off + k * 6 + 2, none⟩) hb).trans r2
      have q3 := (be.cell (p := ⟨b, off + k * 6 + 3, none⟩) hb).trans r3
      have q4 := (be.cell (p := ⟨b, off + k * 6 + 4, none⟩) hb).trans r4
      have q5 := (be.cell (p := ⟨b, off + k * 6 + 5, none⟩) hb).trans r5
      have hki : (k : Int) < (n : Int) := by omega
      have HG := Lib.hid hg
      have hol : o.fb.length ≤ 9223372036854775807 := by have := hr.1; have := hr.2.1; unfold maxLen at this; omega
      have htk : os.take (k + 1) = os.take k ++ [o] := by rw [List.take_add_one, ho]; rfl
      have HNO := Lib.hid hno
      have HTK := Lib.hid htk
      have HY := Lib.hid (fun (h : bigOp o = true) => (List.any_eq_true.2 ⟨o, List.mem_of_getElem? ho, h⟩ : os.any bigOp = true))
      have HB := Lib.hid (show bigOp o = (decide (1500 < o.fb.length) || decide (300 < o.path.size) || decide (100 < o.who.size) || decide (100 < o.own.size)) from rfl)
      clear hc r0 r1 r2 r3 r4 r5 hr ho hb be hg hno htk
      obtain ⟨ln, hln⟩ : ∃ ln, o.fb.length = ln := ⟨_, rfl⟩
      rw [hln] at q5 hol HB
      obtain ⟨ok, om, ow, opt, oo, ofb⟩ := o
      simp only at q0 q1 q2 q3 q4 q5 HB
      clear hln
      by_cases n1 : 1500 < ln
      · have i1 : (1500 : Int) < (ln : Int) := by omega
        have HBB := Lib.hid (HY.out (by rw [HB.out, decide_eq_true n1]; simp))
        clear HB HY n1
        go_wp2
        go_ret
        exact ⟨by have e : gb = true := HGB.out.symm.trans HBB.out
                  rw [e]; rfl, grown_trans' HG.out (grown_alloc _ _ _)⟩
      have i1 : ¬ (1500 : Int) < (ln : Int) := by omega
      by_cases n2 : 300 < opt.size
      · have i2 : (300 : Int) < (opt.size : Int) := by omega
        have HBB := Lib.hid (HY.out (by rw [HB.out, decide_eq_true n2]; simp))
        clear HB HY n1 n2
        go_wp2
        go_ret
        exact ⟨by have e : gb = true := HGB.out.symm.trans HBB.out
                  rw [e]; rfl, grown_trans' HG.out (grown_alloc _ _ _)⟩
      have i2 : ¬ (300 : Int) < (opt.size : Int) := by omega
      by_cases n3 : 100 < ow.size
      · have i3 : (100 : Int) < (ow.size : Int) := by omega
        have HBB := Lib.hid (HY.out (by rw [HB.out, decide_eq_true n3]; simp))
        clear HB HY n1 n2 n3
        go_wp2
        go_ret
        exact ⟨by have e : gb = true := HGB.out.symm.trans HBB.out
                  rw [e]; rfl, grown_trans' HG.out (grown_alloc _ _ _)⟩
      have i3 : ¬ (100 : Int) < (ow.size : Int) := by omega
      by_cases n4 : 100 < oo.size
      · have i4 : (100 : Int) < (oo.size : Int) := by omega
        have HBB := Lib.hid (HY.out (by rw [HB.out, decide_eq_true n4]; simp))
        clear HB HY n1 n2 n3 n4
        go_wp2
        go_ret
        exact ⟨by have e : gb = true := HGB.out.symm.trans HBB.out
                  rw [e]; rfl, grown_trans' HG.out (grown_alloc _ _ _)⟩
      have i4 : ¬ (100 : Int) < (oo.size : Int) := by omega
      have HNN := Lib.hid (show (os.take (k + 1)).any bigOp = false by rw [HTK.out, List.any_append, HNO.out, List.any_cons, HB.out, decide_eq_false n1, decide_eq_false n2, decide_eq_false n3, decide_eq_false n4]; rfl)
      clear HB HY n1 n2 n3 n4
      go_wp2
      go_roundw
      case rel => exact ⟨k + 1, by go_num, by omega, HNN, grown_trans' HG.out (grown_alloc _ _ _)⟩
      case measure => simp [intOf]; omega
    · have hkn : k = n := by omega
      subst hkn
      have hN : os.any bigOp = false := by rw [← hno.out, List.take_of_length_le (Nat.le_of_eq HN.out)]
      have HY := Lib.hid hN
      clear hN hno
      go_wp2
      go_ret
      exact ⟨by have e : gb = false := HGB.out.symm.trans HY.out
                rw [e]; rfl, hg⟩
end Go.Proofs.YtlkchajkhplapaaGreatDoor
