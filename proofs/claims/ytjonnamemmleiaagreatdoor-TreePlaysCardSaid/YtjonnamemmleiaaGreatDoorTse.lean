/- The walks of speaks, TreeOwner. -/
import Derived.Test.YtjonnamemmleiaaGreatDoorTsd
namespace Go.Proofs.YtjonnamemmleiaaGreatDoor
open Go.RowKit Go.Maps Go.WideMaps

def annB : ByteArray := ⟨#[97, 110, 110]⟩
def bobB : ByteArray := ⟨#[98, 111, 98]⟩
def usersP : List UInt8 := [47, 117, 115, 101, 114, 115]
def userxP : List UInt8 := [47, 117, 115, 101, 114, 115, 47, 120]
section
variable (b0 b1 : Nat) (v0 v1 : Value)
theorem sp_mk1 : mkdirC [([47], ⟨b0, true, rootB, 61, v0⟩)] rootB usersP 61 = 0 := by kernel_rfl
theorem sp_mk2 : mkdirC [([47], ⟨b0, true, rootB, 61, v0⟩), (usersP, ⟨b1, true, rootB, 61, v1⟩)] annB userxP 61 = 114 := by kernel_rfl
theorem sp_give : giveR [([47], ⟨b0, true, rootB, 61, v0⟩), (usersP, ⟨b1, true, rootB, 61, v1⟩)] rootB usersP = (0, some ⟨b1, true, rootB, 61, v1⟩) := by kernel_rfl
theorem sp_mk3 : mkdirC [([47], ⟨b0, true, rootB, 61, v0⟩), (usersP, ⟨b1, true, annB, 61, v1⟩)] annB userxP 61 = 0 := by kernel_rfl
end

set_option maxRecDepth 10000 in
set_option maxHeartbeats 4000000 in
theorem speaks_any (w : World) : Calls Tryz.prog 13 #[] w fun e w' => e = .returned (.bool true) ∧ w.grownBy w' none := by
  have TK0 := Lib.hid True.intro
  go_enter Tryz.func13, Tryz.ntmps13
  go_wp2_with (first
    | (have hx := TK0; go_at_call 15; refine (TG.new _).mono ?_; rintro e w0 ⟨tb, mb, b0, v0, rfl, t0, g0⟩; have T0 := Lib.hid (t0); clear t0 g0; clear hx TK0; have TK1 := Lib.hid True.intro)
    | (have hx := TK1; go_at_call 23; refine (g_mkdir_ok T0.out ⟨_, rfl⟩ ⟨#[114, 111, 111, 116]⟩ ⟨#[47, 117, 115, 101, 114, 115]⟩ (by decide) usersP rfl (by decide) 61 (sp_mk1 b0 v0)).mono ?_; rintro e w1 ⟨rfl, b1, v1, t⟩; have T1 := Lib.hid t; clear t; clear hx TK1; have TK2 := Lib.hid True.intro)
    | (have hx := TK2; go_at_call 23; refine (g_mkdir_no T1.out ⟨_, rfl⟩ (by simp) ⟨#[97, 110, 110]⟩ ⟨#[47, 117, 115, 101, 114, 115, 47, 120]⟩ userxP rfl (by decide) 61 114 (sp_mk2 b0 b1 v0 v1) (by decide)).mono ?_; rintro e w2 ⟨rfl, t, kp⟩; have T2 := Lib.hid t; have K2 := Lib.hid kp; clear t kp; clear hx TK2; have TK3 := Lib.hid True.intro)
    | (have hx := TK3; go_at_call 21; refine (g_give_ok T2.out ⟨#[114, 111, 111, 116]⟩ ⟨#[47, 117, 115, 101, 114, 115]⟩ ⟨#[97, 110, 110]⟩ usersP rfl (by decide) (by decide) _ (sp_give b0 b1 v0 v1) (by simp [usersP]; rfl)).mono ?_; rintro e w3 ⟨rfl, t, kp⟩; have T3 := Lib.hid t; clear t kp; clear hx TK3; have TK4 := Lib.hid True.intro)
    | (have hx := TK4; go_at_call 23; refine (g_mkdir_ok T3.out ⟨_, rfl⟩ ⟨#[97, 110, 110]⟩ ⟨#[47, 117, 115, 101, 114, 115, 47, 120]⟩ (by decide) userxP rfl (by decide) 61 (sp_mk3 b0 b1 v0 v1)).mono ?_; rintro e w4 ⟨rfl, b2, v2, t⟩; have T4 := Lib.hid t; clear t; clear hx TK4; have TK5 := Lib.hid True.intro))
  go_ret
  exact ⟨rfl, T4.out.gr⟩
end Go.Proofs.YtjonnamemmleiaaGreatDoor
namespace Go.Proofs.YtjonnamemmleiaaGreatDoor
open Go.RowKit Go.Maps Go.WideMaps

theorem and_low (k : Int) (j : Nat) (hj : j ≤ 62) : ∃ m : Nat, m < 2 ^ j ∧ bits .and .i64 k ((2 ^ j - 1 : Nat) : Int) = (m : Int) := by
  have hp : 2 ^ j ≤ 2 ^ 62 := Nat.pow_le_pow_right (by decide) hj
  have h2 : (2 : Nat) ^ 62 = 4611686018427387904 := by decide
  refine ⟨(BitVec.ofInt 64 k).toNat % 2 ^ j, Nat.mod_lt _ (Nat.two_pow_pos j), ?_⟩
  have hb : (BitVec.ofInt 64 (((2 ^ j - 1 : Nat) : Int))).toNat = 2 ^ j - 1 := by
    rw [BitVec.ofInt_natCast, BitVec.toNat_ofNat]
    exact Nat.mod_eq_of_lt (by omega)
  have hm := Nat.mod_lt (BitVec.ofInt 64 k).toNat (Nat.two_pow_pos j)
  show IntKind.i64.wrap (((BitVec.ofInt 64 k &&& BitVec.ofInt 64 ((2 ^ j - 1 : Nat) : Int)).toNat : Nat) : Int) = _
  rw [BitVec.toNat_and, hb, Nat.and_two_pow_sub_one_eq_mod, IntKind.wrap_i64]
  omega
theorem strTy : Tryz.prog.underlying 9 = some .string := Tryz.underlying9
theorem conv_rb {w : World} {B : Nat} {A : Option Addr} {l : List UInt8} {c k : Nat} (h : RB w B A l c) (hk : l.length = k) : (convert 29 9 (.slice A k c)).run Tryz.prog w = .ok (.string ⟨l.toArray⟩) w := by
  subst hk
  exact run_strB byteT strTy h
theorem conv_own {w : World} {A : Option Addr} {l : List UInt8} {c k : Nat} (h : OwnB w 0 5 (.slice A k c) l) (hk : l.length = k) : (convert 29 9 (.slice A k c)).run Tryz.prog w = .ok (.string ⟨l.toArray⟩) w := by
  obtain ⟨A', c', e, hr, -⟩ := h.shape
  simp only [Value.slice.injEq] at e
  obtain ⟨rfl, -, rfl⟩ := e
  exact conv_rb hr hk
def pD : List UInt8 := [47, 100]
def pF : List UInt8 := [47, 100, 47, 102]
section
variable (b0 b1 b2 : Nat) (v0 v1 v2 : Value) (q : Nat)
theorem ow_mk : mkdirC [([47], ⟨b0, true, rootB, 61, v0⟩)] rootB pD 63 = 0 := by kernel_rfl
theorem writeC_put {M : List (List UInt8 × Nd)} {who : ByteArray} {p : List UInt8} {k : Nat} {m : Int} (h : (comeR M who p).2 = 0) (hm : 0 ≤ m ∧ m ≤ 63) (hk : k ≤ 1000) (hl : M.lookup p = none) (ha : addC M who p = 0) : writeC M who p k m = 0 := by
  unfold writeC
  rw [h, if_neg (by decide), if_neg (by simpa using hm), if_neg (by omega), hl]
  exact ha
theorem ow_out : List.lookup pF [([47], (⟨b0, true, rootB, 61, v0⟩ : Nd)), (pD, ⟨b1, true, rootB, 63, v1⟩)] = none := by kernel_rfl
theorem ow_wr (m : Int) (hm : 0 ≤ m ∧ m ≤ 63) (k : Nat) (hk : k ≤ 1000) : writeC [([47], ⟨b0, true, rootB, 61, v0⟩), (pD, ⟨b1, true, rootB, 63, v1⟩)] annB pF k m = 0 :=
  writeC_put (by kernel_rfl) hm hk (by kernel_rfl) (by kernel_rfl)
theorem ow_r1 (hq : q ≤ 7) : readR [([47], ⟨b0, true, rootB, 61, v0⟩), (pD, ⟨b1, true, rootB, 63, v1⟩), (pF, ⟨b2, false, annB, q, v2⟩)] annB pF = (none, 114) := by
  rcases (show q = 0 ∨ q = 1 ∨ q = 2 ∨ q = 3 ∨ q = 4 ∨ q = 5 ∨ q = 6 ∨ q = 7 by omega) with rfl | rfl | rfl | rfl | rfl | rfl | rfl | rfl <;> kernel_rfl
theorem ow_w2 (hq : q ≤ 7) : writeC [([47], ⟨b0, true, rootB, 61, v0⟩), (pD, ⟨b1, true, rootB, 63, v1⟩), (pF, ⟨b2, false, annB, q, v2⟩)] annB pF 0 0 = 114 := by
  rcases (show q = 0 ∨ q = 1 ∨ q = 2 ∨ q = 3 ∨ q = 4 ∨ q = 5 ∨ q = 6 ∨ q = 7 by omega) with rfl | rfl | rfl | rfl | rfl | rfl | rfl | rfl <;> kernel_rfl
theorem ow_cb : chmodR [([47], ⟨b0, true, rootB, 61, v0⟩), (pD, ⟨b1, true, rootB, 63, v1⟩), (pF, ⟨b2, false, annB, q, v2⟩)] bobB pF 63 = (114, none) := by kernel_rfl
theorem ow_ca : chmodR [([47], ⟨b0, true, rootB, 61, v0⟩), (pD, ⟨b1, true, rootB, 63, v1⟩), (pF, ⟨b2, false, annB, q, v2⟩)] annB pF (56 : Nat) = (0, some ⟨b2, false, annB, q, v2⟩) := by kernel_rfl
theorem ow_in : (pF, (⟨b2, false, annB, q, v2⟩ : Nd)) ∈ [([47], (⟨b0, true, rootB, 61, v0⟩ : Nd)), (pD, ⟨b1, true, rootB, 63, v1⟩), (pF, ⟨b2, false, annB, q, v2⟩)] := by simp
theorem ow_r3 : readR (turn pF (fun x => { x with mode := 56 }) [([47], ⟨b0, true, rootB, 61, v0⟩), (pD, ⟨b1, true, rootB, 63, v1⟩), (pF, ⟨b2, false, annB, q, v2⟩)]) annB pF = (some ⟨b2, false, annB, 56, v2⟩, 0) := by kernel_rfl
theorem ow_r4 : readR (turn pF (fun x => { x with mode := 56 }) [([47], ⟨b0, true, rootB, 61, v0⟩), (pD, ⟨b1, true, rootB, 63, v1⟩), (pF, ⟨b2, false, annB, q, v2⟩)]) bobB pF = (none, 114) := by kernel_rfl
end

end Go.Proofs.YtjonnamemmleiaaGreatDoor
namespace Go.Proofs.YtjonnamemmleiaaGreatDoor
open Go.RowKit Go.Maps Go.WideMaps

section
variable {w0 w : World} {tb mb : Nat} {M : List (List UInt8 × Nd)}
theorem g_remove_ok (h : TG w0 w tb mb M) (who s : ByteArray) (p : List UInt8) (hp : s.data.toList = p) (hs : p.length ≤ 100000) (hc : removeC M who p = 0) (hk : NoKid M p) :
    Calls Tryz.prog 17 #[.pointer (some ⟨tb, 0, none⟩), .string who, .string s] w fun e w' => e = .returned (.int .i64 0) ∧ TG w0 w' tb mb (withoutM M p) :=
  (remove_ok w tb mb M h.ts who s p hp hs hc hk).mono fun _ _ hh => ⟨hh.1, hh.2.1, none_of h.gr hh.2.2 h.b2, h.b1, h.b2, fun q n hq => h.b3 q n (mem_without hq).1⟩
theorem g_nodes (h : TG w0 w tb mb M) (n : Nat) (hn : M.length = n) (hl : n ≤ 1000000) (hsh : Short M) :
    Calls Tryz.prog 29 #[.pointer (some ⟨tb, 0, none⟩)] w fun e w' => ∃ A c, e = .returned (.slice A n c) ∧ TG w0 w' tb mb M := by
  subst hn
  refine (nodes_any w tb mb M h.ts hl hsh).mono ?_
  rintro e w' ⟨v, ks, cs, rfl, hks, hrow, hat, hg⟩
  obtain ⟨A, c, rfl, -, -⟩ := hrow.shape
  refine ⟨A, c, ?_, h.below (below_of_none hg)⟩
  rw [hat.1, hks.1.length_eq]
  unfold keysM
  rw [List.length_map]
theorem f_write_ok {ps : List (List UInt8)} (h : TG w0 w tb mb M) (hf : Flat M ps) (s : ByteArray) (p : List UInt8) (hp : s.data.toList = p) (ho : One p) (hn : p ∉ ps) (m : Nat) (hm : m ≤ 63) (hl : ps.length < 63) :
    Calls Tryz.prog 25 #[.pointer (some ⟨tb, 0, none⟩), .string ⟨#[114, 111, 111, 116]⟩, .string s, .slice none 0 0, .int .i64 m] w fun e w' => e = .returned (.int .i64 0) ∧ ∃ M', TG w0 w' tb mb M' ∧ Flat M' (ps ++ [p]) := by
  have hc := hf.write ho hn 0 (by omega) m (by omega)
  rw [if_neg (by omega)] at hc
  refine (g_write_put h hf.top' rootB s (by decide) p hp (by have := ho.len; omega) none [] 0 0 rfl (RB.nil_ _ _) m hc (hf.out ho hn)).mono ?_
  rintro e w' ⟨rfl, b, v, t, -⟩
  exact ⟨rfl, _, t, hf.put ho _ (show rootB.size ≤ 1000000 by decide)⟩
theorem f_write_no {ps : List (List UInt8)} (h : TG w0 w tb mb M) (hf : Flat M ps) (s : ByteArray) (p : List UInt8) (hp : s.data.toList = p) (ho : One p) (hn : p ∉ ps) (m : Nat) (hm : m ≤ 63) (hl : 63 ≤ ps.length) (hl2 : ps.length ≤ 100) :
    Calls Tryz.prog 25 #[.pointer (some ⟨tb, 0, none⟩), .string ⟨#[114, 111, 111, 116]⟩, .string s, .slice none 0 0, .int .i64 m] w fun e w' => e = .returned (.int .i64 2) ∧ TG w0 w' tb mb M := by
  have hc := hf.write ho hn 0 (by omega) m (by omega)
  rw [if_pos hl] at hc
  exact (g_write_no h hf.top' (by rw [hf.len]; omega) rootB s p hp (by have := ho.len; omega) none 0 0 m 2 hc (by decide)).mono fun _ _ hh => ⟨hh.1, hh.2.1⟩
theorem f_mkdir_ok {ps : List (List UInt8)} (h : TG w0 w tb mb M) (hf : Flat M ps) (s : ByteArray) (p : List UInt8) (hp : s.data.toList = p) (ho : One p) (hn : p ∉ ps) (m : Nat) (hm : m ≤ 63) (hl : ps.length < 63) :
    Calls Tryz.prog 23 #[.pointer (some ⟨tb, 0, none⟩), .string ⟨#[114, 111, 111, 116]⟩, .string s, .int .i64 m] w fun e w' => e = .returned (.int .i64 0) ∧ ∃ M', TG w0 w' tb mb M' ∧ Flat M' (ps ++ [p]) := by
  have hc := hf.mkdir ho hn m (by omega)
  rw [if_neg (by omega)] at hc
  refine (g_mkdir_ok h hf.top' rootB s (by decide) p hp (by have := ho.len; omega) m hc).mono ?_
  rintro e w' ⟨rfl, b, v, t⟩
  exact ⟨rfl, _, t, hf.put ho _ (show rootB.size ≤ 1000000 by decide)⟩
theorem f_mkdir_no {ps : List (List UInt8)} (h : TG w0 w tb mb M) (hf : Flat M ps) (s : ByteArray) (p : List UInt8) (hp : s.data.toList = p) (ho : One p) (hn : p ∉ ps) (m : Nat) (hm : m ≤ 63) (hl : 63 ≤ ps.length) (hl2 : ps.length ≤ 100) :
    Calls Tryz.prog 23 #[.pointer (some ⟨tb, 0, none⟩), .string ⟨#[114, 111, 111, 116]⟩, .string s, .int .i64 m] w fun e w' => e = .returned (.int .i64 2) ∧ TG w0 w' tb mb M := by
  have hc := hf.mkdir ho hn m (by omega)
  rw [if_pos hl] at hc
  exact (g_mkdir_no h hf.top' (by rw [hf.len]; omega) rootB s p hp (by have := ho.len; omega) m 2 hc (by decide)).mono fun _ _ hh => ⟨hh.1, hh.2.1⟩
theorem f_remove_ok {ps : List (List UInt8)} (h : TG w0 w tb mb M) (hf : Flat M ps) (s : ByteArray) (p : List UInt8) (hp : s.data.toList = p) (ho : One p) (hn : p ∈ ps) :
    Calls Tryz.prog 17 #[.pointer (some ⟨tb, 0, none⟩), .string ⟨#[114, 111, 111, 116]⟩, .string s] w fun e w' => e = .returned (.int .i64 0) ∧ ∃ M', TG w0 w' tb mb M' ∧ Flat M' (ps.filter fun x => decide (x ≠ p)) :=
  (g_remove_ok h rootB s p hp (by have := ho.len; omega) (hf.remove ho hn) (hf.noKid ho.ne)).mono fun _ _ hh => ⟨hh.1, _, hh.2, hf.del ho.ne⟩
end
end Go.Proofs.YtjonnamemmleiaaGreatDoor
