/- CachePlays: what its walk leans on. -/
import Derived.Test.YtfpcabfpnekejaaDoorCpz
namespace Go.Proofs.YtfpcabfpnekejaaDoor
open Go.RowKit Go.Maps Go.WideMaps

theorem b64_and3c (n : Int) : bits .and .i64 n 3 = n % 4 := by
  have h127 : (BitVec.ofInt 64 3).toNat = 2 ^ 2 - 1 := by decide
  have key : (BitVec.ofInt 64 n &&& BitVec.ofInt 64 3).toNat = (n % ((2 ^ 64 : Nat) : Int)).toNat % 2 ^ 2 := by
    rw [BitVec.toNat_and, BitVec.toNat_ofInt, h127, Nat.and_two_pow_sub_one_eq_mod]
  show IntKind.i64.wrap ((BitVec.ofInt 64 n &&& BitVec.ofInt 64 3).toNat : Nat) = n % 4
  rw [key, IntKind.wrap_i64]
  omega
theorem LC.mapM {w w' : World} {B m b : Nat} {E : List Ce} {M : Cm} (h : LC w B m E) (hb : MT Tryd.prog 9 strV ceV w b M) (hg : w.grownBy w' (some b)) : LC w' B m E := by
  obtain ⟨_, es, cl, hm, _⟩ := hb
  exact h.map hm hg
/-- The tickets' bytes lie above the document's cache. -/
def HiM (m : Nat) (M : Cm) : Prop := ∀ q ∈ M, ∀ a, q.2.2.1 = some a → m < a.block
theorem HiM.new {m B : Nat} {M M' : Cm} (h : HiM m M) (hn : NewB B M M') (hm : m < B) : HiM m M' := fun q hq a ha => by
  rcases hn q hq with h1 | h1
  · exact h q h1 a ha
  · exact Nat.lt_of_lt_of_le hm (h1 a ha)
theorem WrC.ks {w w' : World} {m c b : Nat} {M : Cm} (h : WrC m w w') (hc : c < m) (hb : b < m) (hM : HiM m M) (hs : KS w c b M) : KS w' c b M := hs.farD h (by omega) (by omega) hM
theorem KS.farE {w w' : World} {c b g : Nat} {M : Cm} (h : KS w c b M) (hg : w.grownBy w' (some g)) (h1 : g ≠ c) (h2 : g ≠ b) (h3 : ∀ q ∈ M, ∀ a, q.2.2.1 = some a → q.2.1.tk = [] ∨ a.block ≠ g) : KS w' c b M :=
  ⟨h.1.grown hg (fun e => h1 e.symm), h.2.1.kept hg (fun e => h2 (by injection e with e; exact e.symm)), h.2.2.1, fun p hp => ⟨(h.2.2.2 p hp).1, (h.2.2.2 p hp).2.1,
    ⟨(h.2.2.2 p hp).2.2.1.apartC hg (fun a ha => (h3 p hp a ha).imp id (fun hne e => hne (by injection e with e; exact e.symm))), (h.2.2.2 p hp).2.2.2⟩⟩⟩
/-- The number that Put answers. -/
def numP (M : Cm) (x : Cd) (now : Int) : Int := if rightC x = false then 1 else if x.en < now then 63 else if x.sv ∉ keysM (liveM M now) ∧ 8 ≤ (liveM M now).length then 2 else 0
theorem PutC.num {M M' : Cm} {x : Cd} {now n : Int} (h : PutC M x now M' n) : n = numP M x now := by
  unfold PutC at h
  unfold numP
  by_cases h1 : rightC x = false
  · rw [if_pos h1] at h ⊢; exact h.2
  rw [if_neg h1] at h ⊢
  by_cases h2 : x.en < now
  · rw [if_pos h2] at h ⊢; exact h.2
  rw [if_neg h2] at h ⊢
  by_cases h3 : x.sv ∉ keysM (liveM M now) ∧ 8 ≤ (liveM M now).length
  · rw [if_pos h3] at h ⊢; exact h.2
  rw [if_neg h3] at h ⊢
  obtain ⟨A', c', -, h⟩ := h
  exact h
theorem sz1C : (Tryd.prog.info? 5).map (·.size) = some 1 := by kernel_rfl
theorem putC_ex (M : Cm) (x : Cd) (now : Int) : ∃ M', PutC M x now M' (numP M x now) := by
  unfold PutC numP
  by_cases h1 : rightC x = false
  · exact ⟨M, by rw [if_pos h1, if_pos h1]; exact ⟨rfl, rfl⟩⟩
  by_cases h2 : x.en < now
  · exact ⟨M, by rw [if_neg h1, if_neg h1, if_pos h2, if_pos h2]; exact ⟨rfl, rfl⟩⟩
  by_cases h3 : x.sv ∉ keysM (liveM M now) ∧ 8 ≤ (liveM M now).length
  · exact ⟨_, by rw [if_neg h1, if_neg h1, if_neg h2, if_neg h2, if_pos h3, if_pos h3]; exact ⟨rfl, rfl⟩⟩
  · exact ⟨_, by rw [if_neg h1, if_neg h1, if_neg h2, if_neg h2, if_neg h3, if_neg h3]; exact ⟨none, 0, rfl, rfl⟩⟩
theorem OwnB.keptO {w w' : World} {base : Nat} {e : TypeId} {v : Value} {l : List UInt8} {r : Option Nat} (h : OwnB w base e v l) (hg : w.grownBy w' r) (hr : ∀ z, r = some z → z < base) : OwnB w' base e v l := by
  refine World.ownsRow.kept h hg ?_
  cases hv : v.ownBlock with
  | none => exact .inl rfl
  | some z =>
    right
    intro e
    have := (OwnB.lt h z hv).1
    have := hr z e.symm
    omega
theorem OwnB.rbO {w : World} {base n c : Nat} {e : TypeId} {A : Option Addr} {l : List UInt8} (h : OwnB w base e (.slice A n c) l) : RB w w.heap.size A l c := by
  obtain ⟨A', c', hv, hr, -⟩ := OwnB.shape h
  injection hv with h1 _ h3
  subst h1 h3
  exact hr
/-- Where a row of bytes lies. -/
theorem OwnB.place {w : World} {base n c : Nat} {e : TypeId} {A : Option Addr} {l : List UInt8} (h : OwnB w base e (.slice A n c) l) : l.length = 0 ∨ ∃ g cs, A = some ⟨g, 0, none⟩ ∧ base ≤ g ∧ CB w g e cs ∧ l.length ≤ cs.length := by
  rcases h.2 with ⟨hv, hl⟩ | ⟨g, cap, cur, hv, hb, hg, hc, hm, hz, _⟩
  · exact .inl hl
  · injection hv with h1 _ _
    exact .inr ⟨g, cur.toList, h1, hb, hg, by simpa [hz] using hc⟩
theorem RB.keptC {w w' : World} {A : Option Addr} {l : List UInt8} {c : Nat} (h : RB w w.heap.size A l c) (hg : w.grownBy w' none) : RB w' w'.heap.size A l c := (h.kept hg (Nat.le_refl _)).more hg.size
theorem cfind_any (n : List UInt8) (hn : n.length ≤ 1000) (now : Int) (w : World) (c b : Nat) (M : Cm) (h : KS w c b M) (E : List Ce) (hr : RelC M E) (y : Ce) (bx : Bool) (hy : (findD E n now).getD zeroCe = y) (hb : (findD E n now).isSome = bx) :
    Calls Tryd.prog 11 #[.pointer (some ⟨c, 0, none⟩), .string ⟨n.toArray⟩, .int .i64 now] w fun e w' => ∃ A' c', e = .returned (.tuple #[.agg (cdC y.1 A' c').toArray, .bool bx]) ∧ RB w' w'.heap.size A' y.1.tk c' ∧ w.grownBy w' none := by
  subst hy hb
  cases hf : findD E n now with
  | none =>
    refine (cfind_out n hn now w c b M h (hr.nofind h.2.2.2.named hf)).mono ?_
    rintro e w' ⟨rfl, g⟩
    exact ⟨none, 0, rfl, RB.nil_ _ _, g⟩
  | some z =>
    obtain ⟨A, k, hm, ho, -⟩ := hr.found h.2.2.2.named hf
    refine (cfind_in n hn now w c b M h _ hm (decide_eq_false ho)).mono ?_
    rintro e w' ⟨A', c', rfl, hrb, -, g⟩
    exact ⟨A', c', rfl, hrb, g⟩
theorem cfindR_any (n : List UInt8) (now : Int) (w : World) (B m : Nat) (E : List Ce) (h : LC w B m E) (y : Ce) (bx : Bool) (hy : (findD E n now).getD zeroCe = y) (hb : (findD E n now).isSome = bx) :
    Calls Tryd.prog 12 #[.pointer (some ⟨m, 0, none⟩), .string ⟨n.toArray⟩, .int .i64 now] w fun e w' => e = .returned (.tuple #[.agg (ceC y).toArray, .bool bx]) ∧ w.grownBy w' none := by
  subst hy hb
  exact (crefFind_any w B m E h n now).mono fun e w' h => ⟨h.2, h.1⟩
theorem zeroCd_w : cdW zeroCd := ⟨zeros_length 16, by show 0 < 18446744073709551616; omega, by show I64c 0; unfold I64c; omega, by show I64c 0; unfold I64c; omega, by show I64c 0; unfold I64c; omega⟩
theorem findD_in {E : List Ce} {n : List UInt8} {now : Int} {y : Ce} (hy : (findD E n now).getD zeroCe = y) : y = zeroCe ∨ y ∈ E := by
  unfold findD at hy
  cases ha : atS nmC E n with
  | none => rw [ha] at hy; exact .inl hy.symm
  | some i =>
    obtain ⟨z, hz, -, -⟩ := atS_some ha
    have hg : E.getD i zeroCe = z := by rw [List.getD_eq_getElem?_getD, hz]; rfl
    rw [ha] at hy
    simp only at hy
    rw [hg] at hy
    split at hy
    · exact .inl hy.symm
    · right; rw [← hy]; exact List.mem_of_getElem? hz
theorem PutD.mem {E out : List Ce} {x y : Ce} {now k : Int} (h : PutD E x now out k) (hy : y ∈ out) : y = x ∨ y ∈ E := by
  have hl : ∀ z ∈ liveE E now, z ∈ E := fun z hz => (List.mem_filter.1 hz).1
  rcases h with ⟨-, rfl, -⟩ | ⟨-, -, rfl, -⟩ | ⟨-, -, ⟨i, -, rfl, -⟩ | ⟨-, -, rfl, -⟩ | ⟨-, -, hi, -⟩⟩
  · exact .inr hy
  · exact .inr hy
  · rcases List.mem_or_eq_of_mem_set hy with h | h
    · exact .inr (hl _ h)
    · exact .inl h
  · exact .inr (hl _ hy)
  · have := hi.perm.mem_iff.1 hy
    rcases List.mem_append.1 this with h | h
    · exact .inr (hl _ h)
    · exact .inl (List.mem_singleton.1 h)
theorem dropD_mem {E : List Ce} {n : List UInt8} {y : Ce} (hy : y ∈ (dropD E n).1) : y ∈ E := by
  unfold dropD at hy
  cases ha : atS nmC E n with
  | none => rw [ha] at hy; exact hy
  | some i =>
    rw [ha] at hy
    rcases List.mem_append.1 hy with h | h
    · exact List.mem_of_mem_take h
    · exact List.mem_of_mem_drop h
def CpwFd (o : Op11) (c m go : Nat) (bq : Bool) : Nat → Value → World → Prop
  | 0, v, _ => v = .pointer (some ⟨c, 0, none⟩)
  | 1, v, _ => v = .pointer (some ⟨go, 2, none⟩)
  | 2, v, _ => v = .string ⟨o.2.2.1.toArray⟩
  | 3, v, _ => v = .bool bq
  | 4, v, _ => v = .pointer (some ⟨m, 0, none⟩)
  | 5, v, _ => v = .pointer (some ⟨go, 2, none⟩)
  | 6, v, _ => v = .string ⟨o.2.2.1.toArray⟩
  | 7, v, _ => v = .bool bq
  | 8, v, _ => v = .bool false
  | _, _, _ => True
theorem CpwFd.kept {o : Op11} {c m go : Nat} {bq : Bool} : ∀ (j : Nat) (v : Value) (x y : World), CpwFd o c m go bq j v x → CpwFd o c m go bq j v y
  | 0, _, _, _, h => h
  | 1, _, _, _, h => h
  | 2, _, _, _, h => h
  | 3, _, _, _, h => h
  | 4, _, _, _, h => h
  | 5, _, _, _, h => h
  | 6, _, _, _, h => h
  | 7, _, _, _, h => h
  | 8, _, _, _, h => h
  | _ + 9, _, _, _, _ => by simp [CpwFd]
def CpwTd (b m : Nat) : Nat → World → World → Prop
  | 3, x, y => x.grownBy y (some b)
  | 7, x, y => WrC m x y
  | _, x, y => x = y
def CpwGd (w : World) (c b m go : Nat) (M M2 : Cm) (E E2 : List Ce) (o : Op11) (L : Nat → Bool) (x : World) : Prop :=
  (L 3 = false → KS x c b M) ∧ (L 3 = true → KS x c b M2) ∧ (L 7 = false → LC x m m E) ∧ (L 7 = true → LC x m m E2) ∧ CB x go 40 (op11C o) ∧ w.grownBy x none
section
variable {w x y : World} {c b m go i : Nat} {M M2 : Cm} {E E2 : List Ce} {o : Op11} {L : Nat → Bool}
theorem CpwGd.more (h5 : i ≠ 3) (h11 : i ≠ 7) (h : CpwGd w c b m go M M2 E E2 o L x) : CpwGd w c b m go M M2 E E2 o (Inv.moreT i L) x := by
  unfold CpwGd at *
  rw [moreT_neW (Ne.symm h5), moreT_neW (Ne.symm h11)]
  exact h
theorem CpwGd.first (hgb : go ≠ b) (hwb : w.heap.size ≤ b) (l : L 3 = false) (h1 : KS y c b M2) (hg : x.grownBy y (some b)) (h : CpwGd w c b m go M M2 E E2 o L x) : CpwGd w c b m go M M2 E E2 o (Inv.moreT 3 L) y := by
  unfold CpwGd at *
  rw [moreT_neW (show (7 : Nat) ≠ 3 by omega), moreT_atW]
  have h0 := (h.1 l).2.1
  exact ⟨(fun e => by cases e), fun _ => h1, fun e => (h.2.2.1 e).mapM h0 hg, fun e => (h.2.2.2.1 e).mapM h0 hg, h.2.2.2.2.1.grown hg hgb, none_new h.2.2.2.2.2 hg hwb⟩
theorem CpwGd.second (hmc : c < m) (hmb : b < m) (hwm : w.heap.size ≤ m) (hgm : go ≠ m) (hM : HiM m M) (hM2 : HiM m M2) (h1 : LC y m m E2) (hg : WrC m x y) (h : CpwGd w c b m go M M2 E E2 o L x) : CpwGd w c b m go M M2 E E2 o (Inv.moreT 7 L) y := by
  unfold CpwGd at *
  rw [moreT_neW (show (3 : Nat) ≠ 7 by omega), moreT_atW]
  exact ⟨fun e => hg.ks hmc hmb hM (h.1 e), fun e => hg.ks hmc hmb hM2 (h.2.1 e), (fun e => by cases e), fun _ => h1, h.2.2.2.2.1.grown hg hgm, none_new h.2.2.2.2.2 hg hwm⟩
end
def CpwFp (o : Op11) (A5 : Option Addr) (c5 : Nat) (c m go : Nat) (kq : Int) : Nat → Value → World → Prop
  | 0, v, _ => v = .pointer (some ⟨c, 0, none⟩)
  | 1, v, _ => v = .agg (cdC o.2.2.2.1 A5 c5).toArray
  | 2, v, _ => v = .pointer (some ⟨go, 1, none⟩)
  | 3, v, _ => v = .int .i64 o.2.1
  | 4, v, _ => v = .int .i64 kq
  | 5, v, _ => v = .pointer (some ⟨m, 0, none⟩)
  | 6, v, _ => v = .pointer (some ⟨go, 3, none⟩)
  | 7, v, _ => v = .agg (ceC o.2.2.2).toArray
  | 8, v, _ => v = .pointer (some ⟨go, 1, none⟩)
  | 9, v, _ => v = .int .i64 o.2.1
  | 10, v, _ => v = .int .i64 kq
  | 11, v, _ => v = .bool false
  | _, _, _ => True
theorem CpwFp.kept {o : Op11} {A5 : Option Addr} {c5 : Nat} {c m go : Nat} {kq : Int} : ∀ (j : Nat) (v : Value) (x y : World), CpwFp o A5 c5 c m go kq j v x → CpwFp o A5 c5 c m go kq j v y
  | 0, _, _, _, h => h
  | 1, _, _, _, h => h
  | 2, _, _, _, h => h
  | 3, _, _, _, h => h
  | 4, _, _, _, h => h
  | 5, _, _, _, h => h
  | 6, _, _, _, h => h
  | 7, _, _, _, h => h
  | 8, _, _, _, h => h
  | 9, _, _, _, h => h
  | 10, _, _, _, h => h
  | 11, _, _, _, h => h
  | _ + 12, _, _, _, _ => by simp [CpwFp]
def CpwTp (b m : Nat) : Nat → World → World → Prop
  | 4, x, y => x.grownBy y (some b)
  | 10, x, y => WrC m x y
  | _, x, y => x = y
def CpwGp (w : World) (B0 BA c b m go gx : Nat) (M : Cm) (E : List Ce) (o : Op11) (A5 : Option Addr) (c5 : Nat) (L : Nat → Bool) (x : World) : Prop :=
  (L 4 = false → KS x c b M) ∧ (L 4 = true → ∃ M2, PutC M o.2.2.2.1 o.2.1 M2 (numP M o.2.2.2.1 o.2.1) ∧ NewB B0 M M2 ∧ KS x c b M2) ∧ (L 10 = false → LC x m m E) ∧ (L 10 = true → ∃ E2 k2, PutD E o.2.2.2 o.2.1 E2 k2 ∧ LC x m m E2) ∧ CB x go 40 (op11C o) ∧ CB x gx 38 (cdC o.2.2.2.1 A5 c5) ∧ w.grownBy x none ∧ B0 ≤ x.heap.size ∧ OwnB x BA 5 (.slice A5 o.2.2.2.1.tk.length c5) o.2.2.2.1.tk
section
variable {w x y : World} {B0 BA c b m go gx i : Nat} {M : Cm} {E : List Ce} {o : Op11} {A5 : Option Addr} {c5 : Nat} {L : Nat → Bool}
theorem CpwGp.more (h5 : i ≠ 4) (h11 : i ≠ 10) (h : CpwGp w B0 BA c b m go gx M E o A5 c5 L x) : CpwGp w B0 BA c b m go gx M E o A5 c5 (Inv.moreT i L) x := by
  unfold CpwGp at *
  rw [moreT_neW (Ne.symm h5), moreT_neW (Ne.symm h11)]
  exact h
theorem CpwGp.first (hbA : b < BA) (hgb : go ≠ b) (hxb : gx ≠ b) (hwb : w.heap.size ≤ b) (l : L 4 = false) (h1 : ∃ M2, PutC M o.2.2.2.1 o.2.1 M2 (numP M o.2.2.2.1 o.2.1) ∧ NewB B0 M M2 ∧ KS y c b M2) (hg : x.grownBy y (some b)) (h : CpwGp w B0 BA c b m go gx M E o A5 c5 L x) : CpwGp w B0 BA c b m go gx M E o A5 c5 (Inv.moreT 4 L) y := by
  unfold CpwGp at *
  rw [moreT_neW (show (10 : Nat) ≠ 4 by omega), moreT_atW]
  have h0 := (h.1 l).2.1
  exact ⟨(fun e => by cases e), fun _ => h1, fun e => (h.2.2.1 e).mapM h0 hg, (fun e => by obtain ⟨E2, k2, hp, hl⟩ := h.2.2.2.1 e; exact ⟨E2, k2, hp, hl.mapM h0 hg⟩), h.2.2.2.2.1.grown hg hgb, h.2.2.2.2.2.1.grown hg hxb, none_new h.2.2.2.2.2.2.1 hg hwb, Nat.le_trans h.2.2.2.2.2.2.2.1 hg.size, h.2.2.2.2.2.2.2.2.keptO hg (fun z e => by injection e with e; omega)⟩
theorem CpwGp.second (hmc : c < m) (hmb : b < m) (hwm : w.heap.size ≤ m) (hgm : go ≠ m) (hxm : gx ≠ m) (hM : HiM m M) (hB0 : m < B0) (hmA : m < BA) (h1 : ∃ E2 k2, PutD E o.2.2.2 o.2.1 E2 k2 ∧ LC y m m E2) (hg : WrC m x y) (h : CpwGp w B0 BA c b m go gx M E o A5 c5 L x) : CpwGp w B0 BA c b m go gx M E o A5 c5 (Inv.moreT 10 L) y := by
  unfold CpwGp at *
  rw [moreT_neW (show (4 : Nat) ≠ 10 by omega), moreT_atW]
  exact ⟨fun e => hg.ks hmc hmb hM (h.1 e), (fun e => by obtain ⟨M', hp, hn, hk⟩ := h.2.1 e; exact ⟨M', hp, hn, hg.ks hmc hmb (hM.new hn hB0) hk⟩), (fun e => by cases e), fun _ => h1, h.2.2.2.2.1.grown hg hgm, h.2.2.2.2.2.1.grown hg hxm, none_new h.2.2.2.2.2.2.1 hg hwm, Nat.le_trans h.2.2.2.2.2.2.2.1 hg.size, h.2.2.2.2.2.2.2.2.keptO hg (fun z e => by injection e with e; omega)⟩
end
end Go.Proofs.YtfpcabfpnekejaaDoor
