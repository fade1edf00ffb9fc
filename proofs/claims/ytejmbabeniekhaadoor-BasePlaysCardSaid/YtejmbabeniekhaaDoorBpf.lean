/- The walk of the law BasePlays. -/
import Derived.Test.YtejmbabeniekhaaDoorBpe
namespace Go.Proofs.YtejmbabeniekhaaDoor
open Go.RowKit Go.Maps

theorem b64_and3 (n : Int) : bits .and .i64 n 3 = n % 4 := by
  have h127 : (BitVec.ofInt 64 3).toNat = 2 ^ 2 - 1 := by decide
  have key : (BitVec.ofInt 64 n &&& BitVec.ofInt 64 3).toNat = (n % ((2 ^ 64 : Nat) : Int)).toNat % 2 ^ 2 := by
    rw [BitVec.toNat_and, BitVec.toNat_ofInt, h127, Nat.and_two_pow_sub_one_eq_mod]
  show IntKind.i64.wrap ((BitVec.ofInt 64 n &&& BitVec.ofInt 64 3).toNat : Nat) = n % 4
  rw [key, IntKind.wrap_i64]
  omega
theorem run_neqE (x y : En) (hx : enW x) (hy : enW y) (w : World) : (binOp .neq 51 (.agg (enC x).toArray) (.agg (enC y).toArray)).run Tryd.prog w = .ok (.bool (!decide (x = y))) w := by
  have h : (Op.equal 51 (.agg (enC x).toArray) (.agg (enC y).toArray)).run Tryd.prog w = .ok (decide (x = y)) w := run_eqEn x y hx hy w
  simp [binOp, h, Result.andThen]
section
variable {P : Program} {w : World} {o : Oper} {a : Act} {Q : Exit → Act → World → Prop} {ty : TypeId} {n : Nat} {p : List Value}
theorem wp_loadX {K : Act → World → Prop} (hT : AggT P ty n) (x : Operand) (ho : o.op = .load ty x) {b off : Nat} (hc : ∀ j v, p[j]? = some v → w.cell? ⟨b, off + j, none⟩ = some v) (hp : p.length = n) (hx : a.eval x = .pointer (some ⟨b, off, none⟩))
    (hk : K (a.put o.dst (.agg p.toArray)) w) : o.wp P a w K Q := by
  unfold Oper.wp execOp
  simp only [ho, hx, Instr.loadAt, Instr.sureAddr, Sem.run_bind, Sem.run_pure, Result.andThen_ok, run_loadX hT hc hp]
  exact hk
end
theorem wp_neqV {P : Program} {o : Oper} {a : Act} {w : World} {K : Act → World → Prop} {Q : Exit → Act → World → Prop} {ty k : TypeId} {A B : Array Value} {c : Bool} (hgt : P.eqGuardType P.depth ty = false) (x y : Operand) (ho : o.op = .binOp .neq ty x y k) (hx : a.eval x = .agg A) (hy : a.eval y = .agg B) (hE : ∀ w, (binOp .neq ty (.agg A) (.agg B)).run P w = .ok (.bool c) w) (hk : K (a.put o.dst (.bool c)) w) : o.wp P a w K Q := by
  unfold Oper.wp execOp
  simp only [ho, hx, hy, Sem.run_bind, Sem.run_pure, Result.andThen_ok, hE, run_eqGuard_agg w .neq ty x y A B hgt]
  exact hk
theorem LS.mapM {w w' : World} {B m b : Nat} {E : List En} {M : Em} (h : LS w B m E) (hb : MT Tryd.prog 9 strV enV w b M) (hg : w.grownBy w' (some b)) : LS w' B m E := by
  obtain ⟨_, es, cl, hm, _⟩ := hb
  exact h.map hm hg
theorem ls_ltB {w : World} {B m : Nat} {E : List En} (h : LS w B m E) : m < w.heap.size := ls_lt h
/-- What the document's calls change leaves the code's Base as it is. -/
theorem WrL.bs {w w' : World} {m c b : Nat} {M : Em} (h : WrL m m w w') (hc : c < m) (hb : b < m) (hs : BS w c b M) : BS w' c b M := by
  rcases h with h | ⟨g, hg, -, h⟩
  · exact hs.none h
  · exact hs.far h (by omega) (by omega)
theorem WrL.cb {w w' : World} {m g : Nat} {t : TypeId} {cs : List Value} {E : List En} (h : WrL m m w w') (hl : LS w m m E) (hc : CB w g t cs) (h1 : t ≠ 51) (h2 : t ≠ 47) : CB w' g t cs := by
  rcases h with h | ⟨k, hk, rfl | ⟨cs', hcs⟩, h⟩
  · exact hc.kept h
  · obtain ⟨-, ⟨v, hv, -⟩, -⟩ := hl
    exact hc.grown h (cb_ne hc hv h2)
  · exact hc.grown h (cb_ne hc hcs h1)
theorem WrL.new {w0 w w' : World} {m : Nat} (h : WrL m m w w') (h0 : w0.grownBy w none) (hm : w0.heap.size ≤ m) : w0.grownBy w' none := by
  rcases h with h | ⟨g, hg, -, h⟩
  · exact grown_trans' h0 h
  · exact none_new h0 h (Nat.le_trans hm hg)
def BpfFd (o : Op9) (c m go : Nat) (bq : Bool) : Nat → Value → World → Prop
  | 0, v, _ => v = .pointer (some ⟨c, 0, none⟩)
  | 1, v, _ => v = .pointer (some ⟨go, 1, none⟩)
  | 2, v, _ => v = .pointer (some ⟨go, 1, none⟩)
  | 3, v, _ => v = .string ⟨o.2.1.toArray⟩
  | 4, v, _ => v = .bool bq
  | 5, v, _ => v = .pointer (some ⟨m, 0, none⟩)
  | 6, v, _ => v = .pointer (some ⟨go, 1, none⟩)
  | 7, v, _ => v = .pointer (some ⟨go, 1, none⟩)
  | 8, v, _ => v = .string ⟨o.2.1.toArray⟩
  | 9, v, _ => v = .bool bq
  | 10, v, _ => v = .bool false
  | _, _, _ => True
theorem BpfFd.kept {o : Op9} {c m go : Nat} {bq : Bool} : ∀ (j : Nat) (v : Value) (x y : World), BpfFd o c m go bq j v x → BpfFd o c m go bq j v y
  | 0, _, _, _, h => h
  | 1, _, _, _, h => h
  | 2, _, _, _, h => h
  | 3, _, _, _, h => h
  | 4, _, _, _, h => h
  | 5, _, _, _, h => h
  | 6, _, _, _, h => h
  | 7, _, _, _, h => h
  | 8, _, _, _, h => h
  | 9, _, _, _, h => h
  | 10, _, _, _, h => h
  | _ + 11, _, _, _, _ => by simp [BpfFd]
def BpfTd (b m : Nat) : Nat → World → World → Prop
  | 4, x, y => x.grownBy y (some b)
  | 9, x, y => WrL m m x y
  | _, x, y => x = y
def BpfGd (w : World) (c b m go : Nat) (M M2 : Em) (E : List En) (o : Op9) (L : Nat → Bool) (x : World) : Prop :=
  (L 4 = false → BS x c b M) ∧ (L 4 = true → BS x c b M2) ∧ (L 9 = false → LS x m m E) ∧ (L 9 = true → ∃ E2, RelB M2 E2 ∧ LS x m m E2) ∧ CB x go 53 (op9C o) ∧ w.grownBy x none
section
variable {w x y : World} {c b m go i : Nat} {M M2 : Em} {E E2 : List En} {o : Op9} {L : Nat → Bool}
theorem BpfGd.more (h5 : i ≠ 4) (h11 : i ≠ 9) (h : BpfGd w c b m go M M2 E o L x) : BpfGd w c b m go M M2 E o (Inv.moreT i L) x := by
  unfold BpfGd at *
  rw [moreT_neW (Ne.symm h5), moreT_neW (Ne.symm h11)]
  exact h
theorem BpfGd.first (hgb : go ≠ b) (hwb : w.heap.size ≤ b) (l : L 4 = false) (h1 : BS y c b M2) (hg : x.grownBy y (some b)) (h : BpfGd w c b m go M M2 E o L x) : BpfGd w c b m go M M2 E o (Inv.moreT 4 L) y := by
  unfold BpfGd at *
  rw [moreT_neW (show (9 : Nat) ≠ 4 by omega), moreT_atW]
  have h0 := (h.1 l).2.1
  exact ⟨(fun e => by cases e), fun _ => h1, fun e => (h.2.2.1 e).mapM h0 hg, fun e => by obtain ⟨E2, hr, hl⟩ := h.2.2.2.1 e; exact ⟨E2, hr, hl.mapM h0 hg⟩, h.2.2.2.2.1.grown hg hgb, none_new h.2.2.2.2.2 hg hwb⟩
theorem BpfGd.second (hmc : c < m) (hmb : b < m) (hwm : w.heap.size ≤ m) (l : L 9 = false) (hr : RelB M2 E2) (h1 : LS y m m E2) (hg : WrL m m x y) (h : BpfGd w c b m go M M2 E o L x) : BpfGd w c b m go M M2 E o (Inv.moreT 9 L) y := by
  unfold BpfGd at *
  rw [moreT_neW (show (4 : Nat) ≠ 9 by omega), moreT_atW]
  exact ⟨fun e => hg.bs hmc hmb (h.1 e), fun e => hg.bs hmc hmb (h.2.1 e), (fun e => by cases e), fun _ => ⟨E2, hr, h1⟩, hg.cb (h.2.2.1 l) h.2.2.2.2.1 (by decide) (by decide), hg.new h.2.2.2.2.2 hwm⟩
end
def BpfFp (o : Op9) (c m go : Nat) (kq : Int) : Nat → Value → World → Prop
  | 0, v, _ => v = .pointer (some ⟨c, 0, none⟩)
  | 1, v, _ => v = .pointer (some ⟨go, 1, none⟩)
  | 2, v, _ => v = .agg (enC o.2).toArray
  | 3, v, _ => v = .int .i64 kq
  | 4, v, _ => v = .pointer (some ⟨m, 0, none⟩)
  | 5, v, _ => v = .pointer (some ⟨go, 1, none⟩)
  | 6, v, _ => v = .agg (enC o.2).toArray
  | 7, v, _ => v = .int .i64 kq
  | 8, v, _ => v = .bool false
  | _, _, _ => True
theorem BpfFp.kept {o : Op9} {c m go : Nat} {kq : Int} : ∀ (j : Nat) (v : Value) (x y : World), BpfFp o c m go kq j v x → BpfFp o c m go kq j v y
  | 0, _, _, _, h => h
  | 1, _, _, _, h => h
  | 2, _, _, _, h => h
  | 3, _, _, _, h => h
  | 4, _, _, _, h => h
  | 5, _, _, _, h => h
  | 6, _, _, _, h => h
  | 7, _, _, _, h => h
  | 8, _, _, _, h => h
  | _ + 9, _, _, _, _ => by simp [BpfFp]
def BpfTp (b m : Nat) : Nat → World → World → Prop
  | 3, x, y => x.grownBy y (some b)
  | 7, x, y => WrL m m x y
  | _, x, y => x = y
def BpfGp (w : World) (c b m go : Nat) (M M2 : Em) (E : List En) (o : Op9) (L : Nat → Bool) (x : World) : Prop :=
  (L 3 = false → BS x c b M) ∧ (L 3 = true → BS x c b M2) ∧ (L 7 = false → LS x m m E) ∧ (L 7 = true → ∃ E2, RelB M2 E2 ∧ LS x m m E2) ∧ CB x go 53 (op9C o) ∧ w.grownBy x none
section
variable {w x y : World} {c b m go i : Nat} {M M2 : Em} {E E2 : List En} {o : Op9} {L : Nat → Bool}
theorem BpfGp.more (h5 : i ≠ 3) (h11 : i ≠ 7) (h : BpfGp w c b m go M M2 E o L x) : BpfGp w c b m go M M2 E o (Inv.moreT i L) x := by
  unfold BpfGp at *
  rw [moreT_neW (Ne.symm h5), moreT_neW (Ne.symm h11)]
  exact h
theorem BpfGp.first (hgb : go ≠ b) (hwb : w.heap.size ≤ b) (l : L 3 = false) (h1 : BS y c b M2) (hg : x.grownBy y (some b)) (h : BpfGp w c b m go M M2 E o L x) : BpfGp w c b m go M M2 E o (Inv.moreT 3 L) y := by
  unfold BpfGp at *
  rw [moreT_neW (show (7 : Nat) ≠ 3 by omega), moreT_atW]
  have h0 := (h.1 l).2.1
  exact ⟨(fun e => by cases e), fun _ => h1, fun e => (h.2.2.1 e).mapM h0 hg, fun e => by obtain ⟨E2, hr, hl⟩ := h.2.2.2.1 e; exact ⟨E2, hr, hl.mapM h0 hg⟩, h.2.2.2.2.1.grown hg hgb, none_new h.2.2.2.2.2 hg hwb⟩
theorem BpfGp.second (hmc : c < m) (hmb : b < m) (hwm : w.heap.size ≤ m) (l : L 7 = false) (hr : RelB M2 E2) (h1 : LS y m m E2) (hg : WrL m m x y) (h : BpfGp w c b m go M M2 E o L x) : BpfGp w c b m go M M2 E o (Inv.moreT 7 L) y := by
  unfold BpfGp at *
  rw [moreT_neW (show (3 : Nat) ≠ 7 by omega), moreT_atW]
  exact ⟨fun e => hg.bs hmc hmb (h.1 e), fun e => hg.bs hmc hmb (h.2.1 e), (fun e => by cases e), fun _ => ⟨E2, hr, h1⟩, hg.cb (h.2.2.1 l) h.2.2.2.2.1 (by decide) (by decide), hg.new h.2.2.2.2.2 hwm⟩
end
def BpfF24 (e : En) (gl ab2 ao2 n9 c9 c11 m j : Nat) : Nat → Value → World → Prop
  | 0, v, _ => v = .slice (some ⟨gl, 0, none⟩) n9 c11
  | 1, v, _ => v = .int .i64 j
  | 2, v, _ => v = .pointer (some ⟨gl, j * 20, none⟩)
  | 3, v, _ => v = .agg (enC e).toArray
  | 4, v, _ => v = .pointer (some ⟨m, 0, none⟩)
  | 5, v, _ => v = .pointer (some ⟨m, 0, none⟩)
  | 6, v, _ => v = .pointer (some ⟨m, 0, none⟩)
  | 7, v, _ => v = .slice (some ⟨ab2, ao2, none⟩) n9 c9
  | 8, v, _ => v = .int .i64 j
  | 9, v, _ => v = .pointer (some ⟨ab2, ao2 + j * 20, none⟩)
  | 10, v, _ => v = .agg (enC e).toArray
  | 11, v, _ => v = .bool false
  | _, _, _ => True
theorem BpfF24.kept {e : En} {gl ab2 ao2 n9 c9 c11 m j : Nat} : ∀ (i : Nat) (v : Value) (x y : World), BpfF24 e gl ab2 ao2 n9 c9 c11 m j i v x → BpfF24 e gl ab2 ao2 n9 c9 c11 m j i v y
  | 0, _, _, _, h => h
  | 1, _, _, _, h => h
  | 2, _, _, _, h => h
  | 3, _, _, _, h => h
  | 4, _, _, _, h => h
  | 5, _, _, _, h => h
  | 6, _, _, _, h => h
  | 7, _, _, _, h => h
  | 8, _, _, _, h => h
  | 9, _, _, _, h => h
  | 10, _, _, _, h => h
  | 11, _, _, _, h => h
  | _ + 12, _, _, _, _ => by simp [BpfF24]
theorem getS_w {E : List En} {n : List UInt8} {x : En} {bx : Bool} (h : getS E n = (x, bx)) (hE : ∀ y ∈ E, enW y) : enW x := by
  have hz : enW zeroEn := ⟨zeros_length 16, by decide, by decide⟩
  unfold getS at h
  split at h
  · rename_i i ha
    obtain ⟨y, hy, -, -⟩ := atS_some ha
    have hg : E.getD i zeroEn = y := by rw [List.getD_eq_getElem?_getD, hy]; rfl
    rw [hg] at h
    split at h
    · injection h with h1 _; rw [← h1]; exact hz
    · injection h with h1 _; rw [← h1]; exact hE y (List.mem_of_getElem? hy)
  · injection h with h1 _; rw [← h1]; exact hz
set_option maxRecDepth 10000 in
set_option maxHeartbeats 4000000 in
theorem bplays_great (w : World) (hM : ML w) (A : Option Addr) (l : List Op9) (n cap : Nat) (hn : l.length = n) (hA : SR w w.heap.size A 21 (l.map op9C) cap) (hl : ∀ o ∈ l, op9W o) (hg : greatO9 l = true) :
    Calls Tryd.prog 5 #[.slice A n cap] w fun x w' => x = .returned (.bool true) ∧ w.grownBy w' none := by
  have HM := Lib.hid hM
  have HN := Lib.hid hn
  have HA := Lib.hid hA
  have HL := Lib.hid hl
  have HGE := Lib.hid hg
  clear hM hn hA hl hg
  go_enter Tryd.func5, Tryd.ntmps5
  go_wp2_with (first
    | (go_at_call 19; refine (bspeaks_any _ HM.out).mono ?_; rintro x wa ⟨rfl, ga⟩; have GA := Lib.hid ga; clear ga)
    | (go_at_call 20; refine (bgreat_any _ A l n cap w.heap.size HN.out (HA.out.made GA.out (Nat.le_refl _)) GA.out.size HL.out).mono ?_; rintro x wb ⟨rfl, gb⟩; rw [HGE.out]; have GB := Lib.hid (grown_trans' GA.out gb); clear gb))
  go_ret
  exact ⟨rfl, GB.out⟩
set_option maxRecDepth 10000 in
set_option maxHeartbeats 4000000 in
theorem bplays_in (w : World) (hM : ML w) (A : Option Addr) (l : List Op9) (n cap : Nat) (hn : l.length = n) (hA : SR w w.heap.size A 21 (l.map op9C) cap) (hl : ∀ o ∈ l, op9W o) (hg : greatO9 l = false) :
    Calls Tryd.prog 5 #[.slice A n cap] w fun x w' => x = .returned (.bool true) ∧ w.grownBy w' none := by
  have HM := Lib.hid hM
  have HN := Lib.hid hn
  have HA := Lib.hid hA
  have HL := Lib.hid hl
  have HGE := Lib.hid hg
  have HLZ := Lib.hid (enC_length (e := zeroEn) (zeros_length 16))
  have N0 := Lib.hid (show n ≤ 60 by rw [← hn]; exact great_len9 hg)
  clear hM hn hA hl hg
  go_enter Tryd.func5, Tryd.ntmps5
  go_wp2_with (first
    | (go_at_call 19; refine (bspeaks_any _ HM.out).mono ?_; rintro x wa ⟨rfl, ga⟩; have GA := Lib.hid ga; clear ga)
    | (go_at_call 20; refine (bgreat_any _ A l n cap w.heap.size HN.out (HA.out.made GA.out (Nat.le_refl _)) GA.out.size HL.out).mono ?_; rintro x wb ⟨rfl, gb⟩; rw [HGE.out]; have GB := Lib.hid (grown_trans' GA.out gb); clear gb)
    | (go_at_call 21; refine (bnew_any _).mono ?_; rintro x w1 ⟨rfl, h1, g1⟩; have H1 := Lib.hid h1; have G1 := Lib.hid (grown_trans' GB.out g1); clear h1 g1))
  obtain ⟨c, hc⟩ : ∃ c, wb.heap.size + 1 = c := ⟨_, rfl⟩
  obtain ⟨b, hb⟩ : ∃ b, wb.heap.size = b := ⟨_, rfl⟩
  have hwb := GB.out.size
  rw [hc, hb] at H1
  rw [hc]
  have HD1 := Lib.hid (show LS (w1.alloc (.cells #[.slice none 0 0] 47)) w1.heap.size w1.heap.size [] from ⟨Nat.le_refl _, ⟨_, CB.new w1 _ [.slice none 0 0], RowX.nil_ _ _ _ _⟩, (fun x hx => by cases hx), by simp⟩)
  have HS1 := Lib.hid (H1.out.none (grown_alloc w1 (.cells #[.slice none 0 0] 47) none))
  have HG1 := Lib.hid (grown_trans' G1.out (grown_alloc w1 (.cells #[.slice none 0 0] 47) none))
  have HCE := Lib.hid (show w.heap.size ≤ b ∧ c < w1.heap.size ∧ b < w1.heap.size ∧ w.heap.size ≤ w1.heap.size from ⟨by omega, H1.out.1.lt, H1.out.2.1.lt, G1.out.size⟩)
  obtain ⟨m, hm⟩ : ∃ m, w1.heap.size = m := ⟨_, rfl⟩
  rw [hm] at HD1 HCE
  rw [hm]
  clear hc hb hm hwb
  go_loopw [24] (fun v wr => ∃ (k : Nat) (M : Em) (E : List En), k ≤ n ∧ v = .int .i64 k ∧ RelB M E ∧ BS wr c b M ∧ LS wr m m E ∧ w.grownBy wr none) (fun v _ => n - (intOf v).toNat)
  case atStart => exact ⟨0, [], [], Nat.zero_le _, rfl, RelB.nil_, HS1.out, HD1.out, HG1.out⟩
  case round =>
    obtain ⟨k, M, E, hk, rfl, hrel, hS, hD, hW⟩ := hrel
    have HREL := Lib.hid hrel
    have HS := Lib.hid hS
    have HD := Lib.hid hD
    have HW := Lib.hid hW
    have HOKM := Lib.hid hS.2.2.2
    have HLM := Lib.hid (show M.length ≤ 16 by rw [hrel.len]; exact hD.2.2.2)
    have hn0 := N0.out
    by_cases hlt : k < n
    · obtain ⟨o, ho⟩ : ∃ o, o = l[k]'(by rw [HN.out]; exact hlt) := ⟨_, rfl⟩
      obtain ⟨ab, ao, hAe, hab, hcells⟩ := HA.out.elem (k := k) (by rw [List.length_map, HN.out]; exact hlt)
      have HOW := Lib.hid (show op9W o by rw [ho]; exact HL.out _ (List.getElem_mem _))
      have HLN := Lib.hid (show o.2.1.length ≤ 1000 from Nat.le_trans (great_name9 HGE.out (by rw [ho]; exact List.getElem_mem _)) (by omega))
      have hce : (l.map op9C)[k]'(by rw [List.length_map, HN.out]; exact hlt) = op9C o := by rw [List.getElem_map, ho]
      rw [hce] at hcells
      have HCELL := Lib.hid (show ∀ j v, (op9C o)[j]? = some v → wr.cell? ⟨ab, ao + 21 * k + j, none⟩ = some v from fun j v hj => ((below_of_none HW.out).cell (p := ⟨ab, _, none⟩) hab).trans (hcells j v hj))
      have HOO := Lib.hid (HOW.out.e.ok HLN.out)
      have HNB := Lib.hid (show wr.heap.size ≠ b from fun e => by have := hS.2.1.lt; omega)
      have HNC := Lib.hid (show wr.heap.size ≠ c from fun e => by have := hS.1.lt; omega)
      have TK5 := Lib.hid True.intro
      subst hAe
      clear hce hcells ho hab hS hD hW hrel
      have HB1 := Lib.hid (CB.new wr 53 zeroO9)
      have hand := b64_and3 o.1
      by_cases h4 : o.1 % 4 = 0
      · rw [h4] at hand
        clear h4
        go_wp2_with (first
          | (have hx := TK5; clear hx TK5; refine wpList_loadX (p := op9C o) aggO9 rfl (.tmp 26) rfl (b := ab) (off := ao + 21 * k) HCELL.out (op9C_len HOW.out) (by first | rfl | go_simp) ?_; have TK6 := Lib.hid True.intro)
          | (have hx := TK6; clear hx TK6; refine wpList_allocC zeroO9_run rfl rfl ?_; have TK7 := Lib.hid True.intro)
          | (have hx := TK7; clear hx TK7; refine wpList_storeC (off := 0) (p := op9C o) aggO9.hi rfl (.tmp 6) (.tmp 27) rfl (.agg (op9C o).toArray) rfl (op9C_one o) HB1.out (op9C_len HOW.out) (by rw [zeroO9_length]; omega) (by first | rfl | go_simp) (by first | rfl | go_simp) ?_; intro w3 h3 g3; rw [over_all _ _ (Nat.le_of_eq (by rw [zeroO9_length, op9C_len HOW.out]))] at h3; have O3 := Lib.hid h3; have W3' := Lib.hid (none_new (grown_alloc wr (.cells zeroO9.toArray 53) none) g3 (Nat.le_refl _)); have W2 := Lib.hid (grown_trans' HW.out W3'.out); have S2 := Lib.hid (HS.out.none W3'.out); have D2 := Lib.hid (HD.out.none W3'.out); have q0 := h3.at_ (op9C_name o); have qk := h3.at_ (op9C_k o); clear h3 g3))
        clear q0 qk hand
        obtain ⟨go, hgo⟩ : ∃ g, wr.heap.size = g := ⟨_, rfl⟩
        rw [hgo] at O3 HNB
        rw [hgo]
        clear hgo
        obtain ⟨bq, hbq⟩ : ∃ q, (dropS E o.2.1).2 = q := ⟨_, rfl⟩
        have HBE := Lib.hid hbq
        have hdr := HREL.out.drop (n := o.2.1) HOKM.out
        have HR2 := Lib.hid hdr.1
        have HBQ := Lib.hid (show bq = true ↔ o.2.1 ∈ keysM M by rw [← hbq]; exact hdr.2)
        have HBB := Lib.hid (show (bq == bq) = true from beq_self_eq_true _)
        clear hbq hdr
        obtain ⟨M2, hM2⟩ : ∃ M2, withoutM M o.2.1 = M2 := ⟨_, rfl⟩
        rw [hM2] at HR2
        have HM2 := Lib.hid hM2
        refine region_byT (n := 11) (ds := [some 32, some 33, some 34, some 35, some 36, some 37, some 38, some 39, some 40, some 41, some 42]) (BpfTd b m) (BpfGd w c b m go M M2 E o) (BpfFd o c m go bq) (by kernel_rfl) (by kernel_rfl) rfl (by kernel_rfl) (fun i j v x y _ _ _ h => BpfFd.kept j v x y h) ⟨(fun _ => S2.out), (fun h => by cases h), (fun _ => D2.out), (fun h => by cases h), O3.out, grown_drew W2.out⟩ ⟨⟨⟨⟨⟨⟨⟨⟨⟨⟨⟨trivial, ?_⟩, ?_⟩, ?_⟩, ?_⟩, ?_⟩, ?_⟩, ?_⟩, ?_⟩, ?_⟩, ?_⟩, ?_⟩ ?_
        · refine Inv.dutyT_plain rfl rfl (fun L vs a x l0 hG dep up val ev out K hK => ?_)
          have e3 : a.eval (.tmp 3) = .pointer (some ⟨c, 0, none⟩) := (out 3 (Inv.ne_of_outB (by kernel_rfl))).trans rfl
          refine Inv.wp_value (v := .pointer (some ⟨c, 0, none⟩)) ?_ (hK.out _ _ rfl (BpfGd.more (i := 0) (by omega) (by omega) hG) rfl)
          clear hG hK K dep up val ev out l0
          generalize a.eval = ρ at *
          (simp [execOp, go_sem, *]; done)
        · refine Inv.dutyT_plain rfl rfl (fun L vs a x l0 hG dep up val ev out K hK => ?_)
          have e6 : a.eval (.tmp 6) = .pointer (some ⟨go, 0, none⟩) := (out 6 (Inv.ne_of_outB (by kernel_rfl))).trans rfl
          refine Inv.wp_value (v := .pointer (some ⟨go, 1, none⟩)) ?_ (hK.out _ _ rfl (BpfGd.more (i := 1) (by omega) (by omega) hG) rfl)
          clear hG hK K dep up val ev out l0
          generalize a.eval = ρ at *
          (simp [execOp, go_sem, *]; done)
        · refine Inv.dutyT_plain rfl rfl (fun L vs a x l0 hG dep up val ev out K hK => ?_)
          have L33 := dep 1 (by kernel_rfl)
          have e33 : a.eval (.tmp 33) = .pointer (some ⟨go, 1, none⟩) := (ev 1 33 L33 (by kernel_rfl)).trans (val 1 L33)
          refine Inv.wp_value (v := .pointer (some ⟨go, 1, none⟩)) ?_ (hK.out _ _ rfl (BpfGd.more (i := 2) (by omega) (by omega) hG) rfl)
          clear hG hK K dep up val ev out l0
          generalize a.eval = ρ at *
          (simp [execOp, go_sem, *]; done)
        · refine Inv.dutyT_plain rfl rfl (fun L vs a x l0 hG dep up val ev out K hK => ?_)
          have L34 := dep 2 (by kernel_rfl)
          have e34 : a.eval (.tmp 34) = .pointer (some ⟨go, 1, none⟩) := (ev 2 34 L34 (by kernel_rfl)).trans (val 2 L34)
          have q0 := hG.2.2.2.2.1.at_ (op9C_name o)
          refine Inv.wp_value (v := .string ⟨o.2.1.toArray⟩) ?_ (hK.out _ _ rfl (BpfGd.more (i := 3) (by omega) (by omega) hG) rfl)
          clear hG hK K dep up val ev out l0
          generalize a.eval = ρ at *
          (simp [execOp, go_sem, *]; done)
        · refine Inv.dutyT_plain rfl rfl (fun L vs a x l0 hG dep up val ev out K hK => ?_)
          have ef : ∀ f, a.eval (.func f) = .func (.func f) #[] #[] := fun _ => rfl
          have L32 := dep 0 (by kernel_rfl)
          have e32 : a.eval (.tmp 32) = .pointer (some ⟨c, 0, none⟩) := (ev 0 32 L32 (by kernel_rfl)).trans (val 0 L32)
          have L35 := dep 3 (by kernel_rfl)
          have e35 : a.eval (.tmp 35) = .string ⟨o.2.1.toArray⟩ := (ev 3 35 L35 (by kernel_rfl)).trans (val 3 L35)
          refine Inv.wp_call (by clear hG hK K dep up val ev out l0; generalize a.eval = ρ at *; (simp [execOp, go_sem, strV, *]; done)) ((drop_any o.2.1 HLN.out x c b M (hG.1 l0) bq HBQ.out).mono ?_)
          rw [HM2.out]
          rintro e w' ⟨rfl, h3, g3⟩
          exact ⟨_, rfl, hK.out _ _ g3 (BpfGd.first HNB.out HCE.out.1 l0 h3 g3 hG) rfl⟩
        · refine Inv.dutyT_plain rfl rfl (fun L vs a x l0 hG dep up val ev out K hK => ?_)
          have e4 : a.eval (.tmp 4) = .pointer (some ⟨m, 0, none⟩) := (out 4 (Inv.ne_of_outB (by kernel_rfl))).trans rfl
          refine Inv.wp_value (v := .pointer (some ⟨m, 0, none⟩)) ?_ (hK.out _ _ rfl (BpfGd.more (i := 5) (by omega) (by omega) hG) rfl)
          clear hG hK K dep up val ev out l0
          generalize a.eval = ρ at *
          (simp [execOp, go_sem, *]; done)
        · refine Inv.dutyT_plain rfl rfl (fun L vs a x l0 hG dep up val ev out K hK => ?_)
          have e6 : a.eval (.tmp 6) = .pointer (some ⟨go, 0, none⟩) := (out 6 (Inv.ne_of_outB (by kernel_rfl))).trans rfl
          refine Inv.wp_value (v := .pointer (some ⟨go, 1, none⟩)) ?_ (hK.out _ _ rfl (BpfGd.more (i := 6) (by omega) (by omega) hG) rfl)
          clear hG hK K dep up val ev out l0
          generalize a.eval = ρ at *
          (simp [execOp, go_sem, *]; done)
        · refine Inv.dutyT_plain rfl rfl (fun L vs a x l0 hG dep up val ev out K hK => ?_)
          have L38 := dep 6 (by kernel_rfl)
          have e38 : a.eval (.tmp 38) = .pointer (some ⟨go, 1, none⟩) := (ev 6 38 L38 (by kernel_rfl)).trans (val 6 L38)
          refine Inv.wp_value (v := .pointer (some ⟨go, 1, none⟩)) ?_ (hK.out _ _ rfl (BpfGd.more (i := 7) (by omega) (by omega) hG) rfl)
          clear hG hK K dep up val ev out l0
          generalize a.eval = ρ at *
          (simp [execOp, go_sem, *]; done)
        · refine Inv.dutyT_plain rfl rfl (fun L vs a x l0 hG dep up val ev out K hK => ?_)
          have L39 := dep 7 (by kernel_rfl)
          have e39 : a.eval (.tmp 39) = .pointer (some ⟨go, 1, none⟩) := (ev 7 39 L39 (by kernel_rfl)).trans (val 7 L39)
          have q0 := hG.2.2.2.2.1.at_ (op9C_name o)
          refine Inv.wp_value (v := .string ⟨o.2.1.toArray⟩) ?_ (hK.out _ _ rfl (BpfGd.more (i := 8) (by omega) (by omega) hG) rfl)
          clear hG hK K dep up val ev out l0
          generalize a.eval = ρ at *
          (simp [execOp, go_sem, *]; done)
        · refine Inv.dutyT_plain rfl rfl (fun L vs a x l0 hG dep up val ev out K hK => ?_)
          have ef : ∀ f, a.eval (.func f) = .func (.func f) #[] #[] := fun _ => rfl
          have L37 := dep 5 (by kernel_rfl)
          have e37 : a.eval (.tmp 37) = .pointer (some ⟨m, 0, none⟩) := (ev 5 37 L37 (by kernel_rfl)).trans (val 5 L37)
          have L40 := dep 8 (by kernel_rfl)
          have e40 : a.eval (.tmp 40) = .string ⟨o.2.1.toArray⟩ := (ev 8 40 L40 (by kernel_rfl)).trans (val 8 L40)
          refine Inv.wp_call (by clear hG hK K dep up val ev out l0; generalize a.eval = ρ at *; (simp [execOp, go_sem, strV, *]; done)) ((refDrop_any x m m E (hG.2.2.1 l0) o.2.1).mono ?_)
          rintro e w' ⟨rfl, h3, g3⟩
          exact ⟨_, rfl, hK.out _ _ g3 (BpfGd.second HCE.out.2.1 HCE.out.2.2.1 HCE.out.2.2.2 l0 HR2.out h3 g3 hG) (by rw [HBE.out]; rfl)⟩
        · refine Inv.dutyT_plain rfl rfl (fun L vs a x l0 hG dep up val ev out K hK => ?_)
          have L36 := dep 4 (by kernel_rfl)
          have e36 : a.eval (.tmp 36) = .bool bq := (ev 4 36 L36 (by kernel_rfl)).trans (val 4 L36)
          have L41 := dep 9 (by kernel_rfl)
          have e41 : a.eval (.tmp 41) = .bool bq := (ev 9 41 L41 (by kernel_rfl)).trans (val 9 L41)
          have hbb := HBB.out
          refine Inv.wp_value (v := .bool false) ?_ (hK.out _ _ rfl (BpfGd.more (i := 10) (by omega) (by omega) hG) rfl)
          clear hG hK K dep up val ev out l0
          generalize a.eval = ρ at *
          (simp [execOp, go_sem, *]; done)
        intro vs L w6 hL hG hv
        have hZ : vs 10 = .bool false := hv 10 (by omega)
        simp only [Inv.putAll, Act.put, List.setIfInBounds_toArray, List.set_cons_zero, List.set_cons_succ, Nat.zero_add, Nat.reduceAdd]
        rw [hZ]
        have S6 := Lib.hid (hG.2.1 (hL 4 (by omega)))
        obtain ⟨E2, hrl, hd6⟩ := hG.2.2.2.1 (hL 9 (by omega))
        have RL := Lib.hid hrl
        have D6 := Lib.hid hd6
        have W6 := Lib.hid hG.2.2.2.2.2
        have OB6 := Lib.hid hG.2.2.2.2.1
        clear hv hZ hG hL hrl hd6 hM2 HM2
        obtain ⟨x, bx, hgs⟩ : ∃ x bx, getS E2 o.2.1 = (x, bx) := ⟨_, _, rfl⟩
        have HGS := Lib.hid hgs
        have HGX := Lib.hid (show getE M2 o.2.1 x bx by have h := RL.out.get (n := o.2.1) S6.out.2.2.2 S6.out.2.1.1.1; rw [hgs] at h; exact h)
        have hxw : enW x := getS_w hgs (fun y hy => (D6.out.2.2.1 y hy).w)
        have HLX := Lib.hid (enC_length hxw.lk)
        have heq : ∀ w, (binOp .neq 51 (.agg (enC x).toArray) (.agg (enC x).toArray)).run Tryd.prog w = .ok (.bool false) w := fun w => by rw [run_neqE x x hxw hxw w, decide_eq_true rfl]; rfl
        have hbx : (bx == bx) = true := beq_self_eq_true _
        obtain ⟨n9, hn9⟩ : ∃ n, E2.length = n := ⟨_, rfl⟩
        have HN9E := Lib.hid hn9
        have HN9 := Lib.hid (show n9 ≤ 16 by rw [← hn9]; exact D6.out.2.2.2)
        have HLM2 := Lib.hid (show M2.length ≤ 16 by rw [RL.out.len, hn9]; exact HN9.out)
        have TK0 := Lib.hid True.intro
        have q0 := OB6.out.at_ (op9C_name o)
        clear hgs hxw hn9
        go_wp2_with (first
          | (go_at_call 26; have hx := TK0; clear hx TK0; refine (get_any o.2.1 HLN.out _ c b M2 S6.out x bx HGX.out).mono ?_; rintro r w7 ⟨rfl, g7⟩; have S7 := Lib.hid (S6.out.none g7); have D7 := Lib.hid (D6.out.none g7); have W7 := Lib.hid (grown_trans' W6.out g7); have OB7 := Lib.hid (OB6.out.kept g7); clear g7 q0; have TK1 := Lib.hid True.intro)
          | (have hx := TK1; clear hx TK1; refine wpList_allocC zeroE_run rfl rfl ?_; have TK2 := Lib.hid True.intro)
          | (have hx := TK2; clear hx TK2; refine wpList_storeC (off := 0) (p := enC x) aggE.hi rfl (.tmp 7) (.tmp 58) rfl (enV x) rfl (enC_one x) (CB.new w7 51 (enC zeroEn)) HLX.out (by rw [HLZ.out]; omega) (by first | rfl | go_simp) (by first | rfl | go_simp) ?_; intro w8 h4 g4; rw [over_all _ _ (Nat.le_of_eq (by rw [HLZ.out, HLX.out]))] at h4; have G4' := Lib.hid (none_new (grown_alloc w7 (.cells (enC zeroEn).toArray 51) none) g4 (Nat.le_refl _)); have C8 := Lib.hid h4; have S8 := Lib.hid (S7.out.none G4'.out); have D8 := Lib.hid (D7.out.none G4'.out); have W8 := Lib.hid (grown_trans' W7.out G4'.out); have OB8 := Lib.hid (OB7.out.kept G4'.out); clear G4'; have q0 := OB8.out.at_ (op9C_name o); clear h4 g4; have TK3 := Lib.hid True.intro)
          | (go_at_call 27; have hx := TK3; clear hx TK3; refine (refGet_any _ m m E2 D8.out o.2.1).mono ?_; rw [HGS.out]; rintro r w9 ⟨rfl, g9⟩; have C9 := Lib.hid (C8.out.kept g9); have S9 := Lib.hid (S8.out.none g9); have D9 := Lib.hid (D8.out.none g9); have W9 := Lib.hid (grown_trans' W8.out g9); clear g9 q0; have TK4 := Lib.hid True.intro)
          | (have hx := TK4; clear hx TK4; refine wpList_allocC zeroE_run rfl rfl ?_; have TK5 := Lib.hid True.intro)
          | (have hx := TK5; clear hx TK5; refine wpList_storeC (off := 0) (p := enC x) aggE.hi rfl (.tmp 9) (.tmp 66) rfl (enV x) rfl (enC_one x) (CB.new w9 51 (enC zeroEn)) HLX.out (by rw [HLZ.out]; omega) (by first | rfl | go_simp) (by first | rfl | go_simp) ?_; intro w10 h4 g4; rw [over_all _ _ (Nat.le_of_eq (by rw [HLZ.out, HLX.out]))] at h4; have G4' := Lib.hid (none_new (grown_alloc w9 (.cells (enC zeroEn).toArray 51) none) g4 (Nat.le_refl _)); have Y10 := Lib.hid h4; have C10 := Lib.hid (C9.out.kept G4'.out); have S10 := Lib.hid (S9.out.none G4'.out); have D10 := Lib.hid (D9.out.none G4'.out); have W10 := Lib.hid (grown_trans' W9.out G4'.out); clear G4'; clear h4 g4; have TK6 := Lib.hid True.intro)
          | (go_at_call 28; have hx := TK6; clear hx TK6; refine (list_any _ c b M2 S10.out (by have := HLM2.out; omega)).mono ?_; rintro r w11 ⟨vl, ks, rfl, hk, hv, g11⟩; rw [RL.out.list S10.out.2.2.2 S10.out.2.1.1.1 hk] at hv; obtain ⟨A11, c11, hv11, -⟩ := hv.shape; rw [List.length_map, HN9E.out] at hv11; subst hv11; have RW11 := Lib.hid hv; have G11 := Lib.hid g11; have C11 := Lib.hid (C10.out.kept g11); have Y11 := Lib.hid (Y10.out.kept g11); obtain ⟨A9, cx, hcm, -, -⟩ := D10.out.open_; rw [HN9E.out] at hcm; have CM10 := Lib.hid hcm; have q9 := (hcm.kept g11).at_ (i := 0) (v := .slice A9 n9 cx) rfl; clear g11 hk hv hcm; have TK7 := Lib.hid True.intro)
          | (have hx := TK7; clear hx TK7; refine wpList_loadC (off := 0) (p := enC x) aggE rfl (.tmp 7) rfl C11.out (take_all HLX.out) (by rw [HLX.out]; omega) (by first | rfl | go_simp) ?_; have TK8 := Lib.hid True.intro)
          | (have hx := TK8; clear hx TK8; refine wpList_loadC (off := 0) (p := enC x) aggE rfl (.tmp 9) rfl Y11.out (take_all HLX.out) (by rw [HLX.out]; omega) (by first | rfl | go_simp) ?_; have TK9 := Lib.hid True.intro))
        clear q9 heq hbx
        go_loopw [90] (fun v wr => ∃ (j : Nat) (Rs : List (List Value)), j ≤ n9 ∧ v = .int .i64 j ∧ Rs.length = n9 ∧ RowX wr w10.heap.size 51 20 (.slice A11 n9 c11) Rs ∧ (∀ i y, j ≤ i → E2[i]? = some y → Rs[i]? = some (enC y)) ∧ w10.grownBy wr none) (fun v _ => n9 - (intOf v).toNat)
        case atStart => exact ⟨0, _, Nat.zero_le _, rfl, by rw [List.length_map]; exact HN9E.out, RW11.out, (fun i y _ hy => by rw [List.getElem?_map, hy]; rfl), G11.out⟩
        case round =>
          rename World => wi
          obtain ⟨j, Rs, hj, rfl, hrl, hrow, hrs, hWi⟩ := hrel
          have RWI := Lib.hid hrow
          have WI := Lib.hid hWi
          have HRL := Lib.hid hrl
          have HRS := Lib.hid hrs
          have hn16 := HN9.out
          clear hrow hWi hrl hrs
          by_cases hjl : j < n9
          · have HJN := Lib.hid (show (j : Int) < (n9 : Int) by omega)
            have hjli : (j : Int) < (n9 : Int) := HJN.out
            have hjE : j < E2.length := by rw [HN9E.out]; exact hjl
            obtain ⟨e, he⟩ : ∃ e, E2[j]? = some e := ⟨_, List.getElem?_eq_getElem hjE⟩
            have hre := HRS.out j e (Nat.le_refl _) he
            obtain ⟨gl, cl, cs, hvl, hbg, hcb, hnc, hcl, htk, -⟩ := rowX_open RWI.out (by rw [HRL.out]; omega)
            have hh := Value.slice.inj hvl
            have hv1 := hh.1
            have hv3 := hh.2.2
            clear hh hvl
            subst hv1
            subst hv3
            obtain ⟨A5, c5, hv5, hsr, -⟩ := RWI.out.shape
            have hh := Value.slice.inj hv5
            have hv6 := hh.1
            have hv7 := hh.2.2
            clear hh hv5
            subst hv6
            subst hv7
            obtain ⟨hjr, hjre⟩ := List.getElem?_eq_some_iff.1 hre
            obtain ⟨ab1, ao1, hab, -, hcl1⟩ := hsr.elem (k := j) hjr
            injection hab with hab
            injection hab with hab1 hab2
            subst hab1 hab2
            rw [hjre] at hcl1
            have HCBL := Lib.hid hcb
            have HCLL := Lib.hid hcl
            have HNCL := Lib.hid hnc
            have FIXL := Lib.hid (show ∀ x, wi.grownBy x none → ∀ q v, (enC e)[q]? = some v → x.cell? ⟨gl, j * 20 + q, none⟩ = some v from fun x hx q v hq => by
              rw [(below_of_none hx).cell (p := ⟨gl, _, none⟩) HCBL.out.lt]
              have := hcl1 q v hq
              rwa [Nat.zero_add, Nat.mul_comm] at this)
            obtain ⟨ab2, ao2, c9, hfix, -, -, hok⟩ := ls_fix (D10.out.none WI.out) he HCBL.out
            rw [HN9E.out] at hfix
            have hcc := (hfix wi (World.grownBy.refl _ _)).1.symm.trans (CM10.out.kept WI.out)
            injection hcc with hcc
            injection hcc with hcc
            injection hcc with hcc
            injection hcc with hcc
            simp at hcc
            obtain ⟨rfl, rfl⟩ := hcc
            have FIX := Lib.hid hfix
            have HLE := Lib.hid (enC_length hok.lk)
            have HEQ2 := Lib.hid (show ∀ w, (binOp .neq 51 (.agg (enC e).toArray) (.agg (enC e).toArray)).run Tryd.prog w = .ok (.bool false) w from fun w => by rw [run_neqE e e hok.w hok.w w, decide_eq_true rfl]; rfl)
            have HBGL := Lib.hid hbg
            clear hfix hok hre hcb hcl hnc htk hsr hcl1 hjre hbg he
            go_wp2
            refine Inv.region_made (n := 12) (ds := [some 93, some 94, some 95, some 96, some 97, some 98, some 99, some 100, some 101, some 102, some 103, some 104]) (fun x => World.grownBy wi x none) (BpfF24 e gl ab2 ao2 n9 c9 c11 m j) (by kernel_rfl) (by kernel_rfl) rfl (by kernel_rfl) (fun _ _ hg h => grown_trans' h hg) (fun i v x y _ _ h => BpfF24.kept i v x y h) (grown_drew (World.grownBy.refl wi none)) ⟨⟨⟨⟨⟨⟨⟨⟨⟨⟨⟨⟨trivial, ?_⟩, ?_⟩, ?_⟩, ?_⟩, ?_⟩, ?_⟩, ?_⟩, ?_⟩, ?_⟩, ?_⟩, ?_⟩, ?_⟩ ?_
            · refine Inv.duty_plain rfl rfl (fun L vs a x hG dep up val ev out K hK => ?_)
              have e11 : a.eval (.tmp 11) = .slice (some ⟨gl, 0, none⟩) n9 c11 := (out 11 (by kernel_rfl)).trans rfl
              refine Inv.wp_value (v := .slice (some ⟨gl, 0, none⟩) n9 c11) ?_ (hK.out _ _ (World.grownBy.refl x _) rfl)
              clear hK K dep up val ev out
              generalize a.eval = ρ at *
              (simp [execOp, go_sem, *]; done)
            · refine Inv.duty_plain rfl rfl (fun L vs a x hG dep up val ev out K hK => ?_)
              have e12 : a.eval (.tmp 12) = .int .i64 j := (out 12 (by kernel_rfl)).trans rfl
              refine Inv.wp_value (v := .int .i64 j) ?_ (hK.out _ _ (World.grownBy.refl x _) rfl)
              clear hK K dep up val ev out
              generalize a.eval = ρ at *
              (simp [execOp, go_sem, *]; done)
            · refine Inv.duty_plain rfl rfl (fun L vs a x hG dep up val ev out K hK => ?_)
              have L93 := dep 0 (by kernel_rfl)
              have e93 : a.eval (.tmp 93) = .slice (some ⟨gl, 0, none⟩) n9 c11 := (ev 0 93 L93 (by kernel_rfl)).trans (val 0 L93)
              have L94 := dep 1 (by kernel_rfl)
              have e94 : a.eval (.tmp 94) = .int .i64 j := (ev 1 94 L94 (by kernel_rfl)).trans (val 1 L94)
              have h1 := HJN.out
              have h2 := HN9.out
              refine Inv.wp_value (v := .pointer (some ⟨gl, j * 20, none⟩)) ?_ (hK.out _ _ (World.grownBy.refl x _) rfl)
              clear hK K dep up val ev out
              generalize a.eval = ρ at *
              (simp [execOp, go_sem, *]; done)
            · refine Inv.duty_plain rfl rfl (fun L vs a x hG dep up val ev out K hK => ?_)
              have L95 := dep 2 (by kernel_rfl)
              have e95 : a.eval (.tmp 95) = .pointer (some ⟨gl, j * 20, none⟩) := (ev 2 95 L95 (by kernel_rfl)).trans (val 2 L95)
              exact wp_loadX aggE (.tmp 95) rfl (b := gl) (off := j * 20) (FIXL.out x hG) HLE.out e95 (hK.out _ _ (World.grownBy.refl x _) rfl)
            · refine Inv.duty_plain rfl rfl (fun L vs a x hG dep up val ev out K hK => ?_)
              have e4 : a.eval (.tmp 4) = .pointer (some ⟨m, 0, none⟩) := (out 4 (by kernel_rfl)).trans rfl
              refine Inv.wp_value (v := .pointer (some ⟨m, 0, none⟩)) ?_ (hK.out _ _ (World.grownBy.refl x _) rfl)
              clear hK K dep up val ev out
              generalize a.eval = ρ at *
              (simp [execOp, go_sem, *]; done)
            · refine Inv.duty_plain rfl rfl (fun L vs a x hG dep up val ev out K hK => ?_)
              have L97 := dep 4 (by kernel_rfl)
              have e97 : a.eval (.tmp 97) = .pointer (some ⟨m, 0, none⟩) := (ev 4 97 L97 (by kernel_rfl)).trans (val 4 L97)
              refine Inv.wp_value (v := .pointer (some ⟨m, 0, none⟩)) ?_ (hK.out _ _ (World.grownBy.refl x _) rfl)
              clear hK K dep up val ev out
              generalize a.eval = ρ at *
              (simp [execOp, go_sem, *]; done)
            · refine Inv.duty_plain rfl rfl (fun L vs a x hG dep up val ev out K hK => ?_)
              have L98 := dep 5 (by kernel_rfl)
              have e98 : a.eval (.tmp 98) = .pointer (some ⟨m, 0, none⟩) := (ev 5 98 L98 (by kernel_rfl)).trans (val 5 L98)
              refine Inv.wp_value (v := .pointer (some ⟨m, 0, none⟩)) ?_ (hK.out _ _ (World.grownBy.refl x _) rfl)
              clear hK K dep up val ev out
              generalize a.eval = ρ at *
              (simp [execOp, go_sem, *]; done)
            · refine Inv.duty_plain rfl rfl (fun L vs a x hG dep up val ev out K hK => ?_)
              have L99 := dep 6 (by kernel_rfl)
              have e99 : a.eval (.tmp 99) = .pointer (some ⟨m, 0, none⟩) := (ev 6 99 L99 (by kernel_rfl)).trans (val 6 L99)
              have q0 := (FIX.out x hG).1.at_ (i := 0) (v := .slice (some ⟨ab2, ao2, none⟩) n9 c9) rfl
              refine Inv.wp_value (v := .slice (some ⟨ab2, ao2, none⟩) n9 c9) ?_ (hK.out _ _ (World.grownBy.refl x _) rfl)
              clear hK K dep up val ev out
              generalize a.eval = ρ at *
              (simp [execOp, go_sem, *]; done)
            · refine Inv.duty_plain rfl rfl (fun L vs a x hG dep up val ev out K hK => ?_)
              have e12 : a.eval (.tmp 12) = .int .i64 j := (out 12 (by kernel_rfl)).trans rfl
              refine Inv.wp_value (v := .int .i64 j) ?_ (hK.out _ _ (World.grownBy.refl x _) rfl)
              clear hK K dep up val ev out
              generalize a.eval = ρ at *
              (simp [execOp, go_sem, *]; done)
            · refine Inv.duty_plain rfl rfl (fun L vs a x hG dep up val ev out K hK => ?_)
              have L100 := dep 7 (by kernel_rfl)
              have e100 : a.eval (.tmp 100) = .slice (some ⟨ab2, ao2, none⟩) n9 c9 := (ev 7 100 L100 (by kernel_rfl)).trans (val 7 L100)
              have L101 := dep 8 (by kernel_rfl)
              have e101 : a.eval (.tmp 101) = .int .i64 j := (ev 8 101 L101 (by kernel_rfl)).trans (val 8 L101)
              have h1 := HJN.out
              have h2 := HN9.out
              refine Inv.wp_value (v := .pointer (some ⟨ab2, ao2 + j * 20, none⟩)) ?_ (hK.out _ _ (World.grownBy.refl x _) rfl)
              clear hK K dep up val ev out
              generalize a.eval = ρ at *
              (simp [execOp, go_sem, *]; done)
            · refine Inv.duty_plain rfl rfl (fun L vs a x hG dep up val ev out K hK => ?_)
              have L102 := dep 9 (by kernel_rfl)
              have e102 : a.eval (.tmp 102) = .pointer (some ⟨ab2, ao2 + j * 20, none⟩) := (ev 9 102 L102 (by kernel_rfl)).trans (val 9 L102)
              exact wp_loadX aggE (.tmp 102) rfl (b := ab2) (off := ao2 + j * 20) (FIX.out x hG).2.1 HLE.out e102 (hK.out _ _ (World.grownBy.refl x _) rfl)
            · refine Inv.duty_plain rfl rfl (fun L vs a x hG dep up val ev out K hK => ?_)
              have L96 := dep 3 (by kernel_rfl)
              have e96 : a.eval (.tmp 96) = .agg (enC e).toArray := (ev 3 96 L96 (by kernel_rfl)).trans (val 3 L96)
              have L103 := dep 10 (by kernel_rfl)
              have e103 : a.eval (.tmp 103) = .agg (enC e).toArray := (ev 10 103 L103 (by kernel_rfl)).trans (val 10 L103)
              exact wp_neqV (by kernel_rfl) (.tmp 96) (.tmp 103) rfl e96 e103 HEQ2.out (hK.out _ _ (World.grownBy.refl x _) rfl)
            intro vs w' hG hv
            have hZ : vs 11 = .bool false := hv 11 (by omega)
            simp only [Inv.putAll, Act.put, List.setIfInBounds_toArray, List.set_cons_zero, List.set_cons_succ, Nat.zero_add, Nat.reduceAdd]
            rw [hZ]
            have GI := Lib.hid hG
            have CL := Lib.hid (HCBL.out.kept hG)
            clear hv hZ hG
            go_wp2_with (first
              | refine wpList_buildV rfl rfl (by first | rfl | (go_simp; rfl)) (run_buildE0 _) ?_
              | (refine wpList_storeC (off := j * 20) (p := enC zeroEn) aggE.hi rfl (.tmp 108) (.tmp 107) rfl (.agg (enC zeroEn).toArray) rfl (enC_one zeroEn) CL.out HLZ.out (by have h1 := HCLL.out; have h2 := HNCL.out; have h3 := HRL.out; rw [h1]; omega) (by first | rfl | go_simp) (by first | rfl | go_simp) ?_; intro w5 h5 g5; have C5 := Lib.hid h5; have G5 := Lib.hid g5; clear h5 g5))
            go_roundw
            case rel =>
              refine ⟨j + 1, Rs.set j (enC zeroEn), by omega, by go_num, by rw [List.length_set]; exact HRL.out, ?_, ?_, ?_⟩
              · have h9 := rowX_over (k := j) (p := enC zeroEn) (by rw [HRL.out]; exact RWI.out.none GI.out) (by rw [HRL.out]; omega) HLZ.out CL.out (by rw [Nat.mul_comm]; exact C5.out)
                rw [HRL.out] at h9
                exact h9
              · intro i y hi hy
                rw [List.getElem?_set_ne (by omega)]
                exact HRS.out i y (by omega) hy
              · exact none_new (grown_trans' WI.out GI.out) G5.out HBGL.out
            case measure => simp [intOf]; omega
          · have S12 := Lib.hid (S10.out.none WI.out)
            have D12 := Lib.hid (D10.out.none WI.out)
            have W12 := Lib.hid (grown_trans' W10.out WI.out)
            go_wp2
            go_roundw
            case rel => exact ⟨k + 1, M2, E2, by omega, by go_num, RL.out, S12.out, D12.out, W12.out⟩
            case measure => simp [intOf]; omega
      · have hk4 : (o.1 % 4 == 0) = false := by simpa using h4
        clear h4
        go_wp2_with (first
          | (have hx := TK5; clear hx TK5; refine wpList_loadX (p := op9C o) aggO9 rfl (.tmp 26) rfl (b := ab) (off := ao + 21 * k) HCELL.out (op9C_len HOW.out) (by first | rfl | go_simp) ?_; have TK6 := Lib.hid True.intro)
          | (have hx := TK6; clear hx TK6; refine wpList_allocC zeroO9_run rfl rfl ?_; have TK7 := Lib.hid True.intro)
          | (have hx := TK7; clear hx TK7; refine wpList_storeC (off := 0) (p := op9C o) aggO9.hi rfl (.tmp 6) (.tmp 27) rfl (.agg (op9C o).toArray) rfl (op9C_one o) HB1.out (op9C_len HOW.out) (by rw [zeroO9_length]; omega) (by first | rfl | go_simp) (by first | rfl | go_simp) ?_; intro w3 h3 g3; rw [over_all _ _ (Nat.le_of_eq (by rw [zeroO9_length, op9C_len HOW.out]))] at h3; have O3 := Lib.hid h3; have W3' := Lib.hid (none_new (grown_alloc wr (.cells zeroO9.toArray 53) none) g3 (Nat.le_refl _)); have W2 := Lib.hid (grown_trans' HW.out W3'.out); have S2 := Lib.hid (HS.out.none W3'.out); have D2 := Lib.hid (HD.out.none W3'.out); have q0 := h3.at_ (op9C_name o); have qk := h3.at_ (op9C_k o); clear h3 g3))
        clear q0 qk hand hk4
        obtain ⟨go, hgo⟩ : ∃ g, wr.heap.size = g := ⟨_, rfl⟩
        rw [hgo] at O3 HNB
        rw [hgo]
        clear hgo
        obtain ⟨kq, hkq⟩ : ∃ q, (putE M o.2).2 = q := ⟨_, rfl⟩
        have HKQ := Lib.hid hkq
        have HBB := Lib.hid (show (kq == kq) = true from beq_self_eq_true _)
        clear hkq
        obtain ⟨M2, hM2⟩ : ∃ M2, (putE M o.2).1 = M2 := ⟨_, rfl⟩
        have HM2 := Lib.hid hM2
        refine region_byT (n := 9) (ds := [some 43, some 44, some 45, some 46, some 47, some 48, some 49, some 50, some 51]) (BpfTp b m) (BpfGp w c b m go M M2 E o) (BpfFp o c m go kq) (by kernel_rfl) (by kernel_rfl) rfl (by kernel_rfl) (fun i j v x y _ _ _ h => BpfFp.kept j v x y h) ⟨(fun _ => S2.out), (fun h => by cases h), (fun _ => D2.out), (fun h => by cases h), O3.out, grown_drew W2.out⟩ ⟨⟨⟨⟨⟨⟨⟨⟨⟨trivial, ?_⟩, ?_⟩, ?_⟩, ?_⟩, ?_⟩, ?_⟩, ?_⟩, ?_⟩, ?_⟩ ?_
        · refine Inv.dutyT_plain rfl rfl (fun L vs a x l0 hG dep up val ev out K hK => ?_)
          have e3 : a.eval (.tmp 3) = .pointer (some ⟨c, 0, none⟩) := (out 3 (Inv.ne_of_outB (by kernel_rfl))).trans rfl
          refine Inv.wp_value (v := .pointer (some ⟨c, 0, none⟩)) ?_ (hK.out _ _ rfl (BpfGp.more (i := 0) (by omega) (by omega) hG) rfl)
          clear hG hK K dep up val ev out l0
          generalize a.eval = ρ at *
          (simp [execOp, go_sem, *]; done)
        · refine Inv.dutyT_plain rfl rfl (fun L vs a x l0 hG dep up val ev out K hK => ?_)
          have e6 : a.eval (.tmp 6) = .pointer (some ⟨go, 0, none⟩) := (out 6 (Inv.ne_of_outB (by kernel_rfl))).trans rfl
          refine Inv.wp_value (v := .pointer (some ⟨go, 1, none⟩)) ?_ (hK.out _ _ rfl (BpfGp.more (i := 1) (by omega) (by omega) hG) rfl)
          clear hG hK K dep up val ev out l0
          generalize a.eval = ρ at *
          (simp [execOp, go_sem, *]; done)
        · refine Inv.dutyT_plain rfl rfl (fun L vs a x l0 hG dep up val ev out K hK => ?_)
          have L44 := dep 1 (by kernel_rfl)
          have e44 : a.eval (.tmp 44) = .pointer (some ⟨go, 1, none⟩) := (ev 1 44 L44 (by kernel_rfl)).trans (val 1 L44)
          exact wp_loadC aggE (.tmp 44) rfl hG.2.2.2.2.1 (op9C_en HOW.out) (by rw [op9C_len HOW.out]; omega) e44 (hK.out _ _ rfl (BpfGp.more (i := 2) (by omega) (by omega) hG) rfl)
        · refine Inv.dutyT_plain rfl rfl (fun L vs a x l0 hG dep up val ev out K hK => ?_)
          have ef : ∀ f, a.eval (.func f) = .func (.func f) #[] #[] := fun _ => rfl
          have L43 := dep 0 (by kernel_rfl)
          have e43 : a.eval (.tmp 43) = .pointer (some ⟨c, 0, none⟩) := (ev 0 43 L43 (by kernel_rfl)).trans (val 0 L43)
          have L45 := dep 2 (by kernel_rfl)
          have e45 : a.eval (.tmp 45) = .agg (enC o.2).toArray := (ev 2 45 L45 (by kernel_rfl)).trans (val 2 L45)
          refine Inv.wp_call (by clear hG hK K dep up val ev out l0; generalize a.eval = ρ at *; (simp [execOp, go_sem, *]; done)) ((put_any o.2 HOO.out x (HM.out.below (below_of_none hG.2.2.2.2.2)) c b M (hG.1 l0) (by have := HLM.out; omega)).mono ?_)
          rintro e w' ⟨rfl, h3, g3⟩
          rw [HM2.out] at h3
          exact ⟨_, rfl, hK.out _ _ g3 (BpfGp.first HNB.out HCE.out.1 l0 h3 g3 hG) (by rw [HKQ.out]; rfl)⟩
        · refine Inv.dutyT_plain rfl rfl (fun L vs a x l0 hG dep up val ev out K hK => ?_)
          have e4 : a.eval (.tmp 4) = .pointer (some ⟨m, 0, none⟩) := (out 4 (Inv.ne_of_outB (by kernel_rfl))).trans rfl
          refine Inv.wp_value (v := .pointer (some ⟨m, 0, none⟩)) ?_ (hK.out _ _ rfl (BpfGp.more (i := 4) (by omega) (by omega) hG) rfl)
          clear hG hK K dep up val ev out l0
          generalize a.eval = ρ at *
          (simp [execOp, go_sem, *]; done)
        · refine Inv.dutyT_plain rfl rfl (fun L vs a x l0 hG dep up val ev out K hK => ?_)
          have e6 : a.eval (.tmp 6) = .pointer (some ⟨go, 0, none⟩) := (out 6 (Inv.ne_of_outB (by kernel_rfl))).trans rfl
          refine Inv.wp_value (v := .pointer (some ⟨go, 1, none⟩)) ?_ (hK.out _ _ rfl (BpfGp.more (i := 5) (by omega) (by omega) hG) rfl)
          clear hG hK K dep up val ev out l0
          generalize a.eval = ρ at *
          (simp [execOp, go_sem, *]; done)
        · refine Inv.dutyT_plain rfl rfl (fun L vs a x l0 hG dep up val ev out K hK => ?_)
          have L48 := dep 5 (by kernel_rfl)
          have e48 : a.eval (.tmp 48) = .pointer (some ⟨go, 1, none⟩) := (ev 5 48 L48 (by kernel_rfl)).trans (val 5 L48)
          exact wp_loadC aggE (.tmp 48) rfl hG.2.2.2.2.1 (op9C_en HOW.out) (by rw [op9C_len HOW.out]; omega) e48 (hK.out _ _ rfl (BpfGp.more (i := 6) (by omega) (by omega) hG) rfl)
        · refine Inv.dutyT_plain rfl rfl (fun L vs a x l0 hG dep up val ev out K hK => ?_)
          have ef : ∀ f, a.eval (.func f) = .func (.func f) #[] #[] := fun _ => rfl
          have L47 := dep 4 (by kernel_rfl)
          have e47 : a.eval (.tmp 47) = .pointer (some ⟨m, 0, none⟩) := (ev 4 47 L47 (by kernel_rfl)).trans (val 4 L47)
          have L49 := dep 6 (by kernel_rfl)
          have e49 : a.eval (.tmp 49) = .agg (enC o.2).toArray := (ev 6 49 L49 (by kernel_rfl)).trans (val 6 L49)
          refine Inv.wp_call (by clear hG hK K dep up val ev out l0; generalize a.eval = ρ at *; (simp [execOp, go_sem, *]; done)) ((refPut_any x m m E (hG.2.2.1 l0) o.2 HOO.out).mono ?_)
          rintro e w' ⟨E2, k2, hp, rfl, h3, g3⟩
          have hr := HREL.out.put HOKM.out hp
          rw [HM2.out] at hr
          exact ⟨_, rfl, hK.out _ _ g3 (BpfGp.second HCE.out.2.1 HCE.out.2.2.1 HCE.out.2.2.2 l0 hr.1 h3 g3 hG) (by rw [← hr.2, HKQ.out]; rfl)⟩
        · refine Inv.dutyT_plain rfl rfl (fun L vs a x l0 hG dep up val ev out K hK => ?_)
          have L46 := dep 3 (by kernel_rfl)
          have e46 : a.eval (.tmp 46) = .int .i64 kq := (ev 3 46 L46 (by kernel_rfl)).trans (val 3 L46)
          have L50 := dep 7 (by kernel_rfl)
          have e50 : a.eval (.tmp 50) = .int .i64 kq := (ev 7 50 L50 (by kernel_rfl)).trans (val 7 L50)
          have hbb := HBB.out
          refine Inv.wp_value (v := .bool false) ?_ (hK.out _ _ rfl (BpfGp.more (i := 8) (by omega) (by omega) hG) rfl)
          clear hG hK K dep up val ev out l0
          generalize a.eval = ρ at *
          (simp [execOp, go_sem, *]; done)
        intro vs L w6 hL hG hv
        have hZ : vs 8 = .bool false := hv 8 (by omega)
        simp only [Inv.putAll, Act.put, List.setIfInBounds_toArray, List.set_cons_zero, List.set_cons_succ, Nat.zero_add, Nat.reduceAdd]
        rw [hZ]
        have S6 := Lib.hid (hG.2.1 (hL 3 (by omega)))
        obtain ⟨E2, hrl, hd6⟩ := hG.2.2.2.1 (hL 7 (by omega))
        have RL := Lib.hid hrl
        have D6 := Lib.hid hd6
        have W6 := Lib.hid hG.2.2.2.2.2
        have OB6 := Lib.hid hG.2.2.2.2.1
        clear hv hZ hG hL hrl hd6 hM2 HM2
        obtain ⟨x, bx, hgs⟩ : ∃ x bx, getS E2 o.2.1 = (x, bx) := ⟨_, _, rfl⟩
        have HGS := Lib.hid hgs
        have HGX := Lib.hid (show getE M2 o.2.1 x bx by have h := RL.out.get (n := o.2.1) S6.out.2.2.2 S6.out.2.1.1.1; rw [hgs] at h; exact h)
        have hxw : enW x := getS_w hgs (fun y hy => (D6.out.2.2.1 y hy).w)
        have HLX := Lib.hid (enC_length hxw.lk)
        have heq : ∀ w, (binOp .neq 51 (.agg (enC x).toArray) (.agg (enC x).toArray)).run Tryd.prog w = .ok (.bool false) w := fun w => by rw [run_neqE x x hxw hxw w, decide_eq_true rfl]; rfl
        have hbx : (bx == bx) = true := beq_self_eq_true _
        obtain ⟨n9, hn9⟩ : ∃ n, E2.length = n := ⟨_, rfl⟩
        have HN9E := Lib.hid hn9
        have HN9 := Lib.hid (show n9 ≤ 16 by rw [← hn9]; exact D6.out.2.2.2)
        have HLM2 := Lib.hid (show M2.length ≤ 16 by rw [RL.out.len, hn9]; exact HN9.out)
        have TK0 := Lib.hid True.intro
        have q0 := OB6.out.at_ (op9C_name o)
        clear hgs hxw hn9
        go_wp2_with (first
          | (go_at_call 26; have hx := TK0; clear hx TK0; refine (get_any o.2.1 HLN.out _ c b M2 S6.out x bx HGX.out).mono ?_; rintro r w7 ⟨rfl, g7⟩; have S7 := Lib.hid (S6.out.none g7); have D7 := Lib.hid (D6.out.none g7); have W7 := Lib.hid (grown_trans' W6.out g7); have OB7 := Lib.hid (OB6.out.kept g7); clear g7 q0; have TK1 := Lib.hid True.intro)
          | (have hx := TK1; clear hx TK1; refine wpList_allocC zeroE_run rfl rfl ?_; have TK2 := Lib.hid True.intro)
          | (have hx := TK2; clear hx TK2; refine wpList_storeC (off := 0) (p := enC x) aggE.hi rfl (.tmp 7) (.tmp 58) rfl (enV x) rfl (enC_one x) (CB.new w7 51 (enC zeroEn)) HLX.out (by rw [HLZ.out]; omega) (by first | rfl | go_simp) (by first | rfl | go_simp) ?_; intro w8 h4 g4; rw [over_all _ _ (Nat.le_of_eq (by rw [HLZ.out, HLX.out]))] at h4; have G4' := Lib.hid (none_new (grown_alloc w7 (.cells (enC zeroEn).toArray 51) none) g4 (Nat.le_refl _)); have C8 := Lib.hid h4; have S8 := Lib.hid (S7.out.none G4'.out); have D8 := Lib.hid (D7.out.none G4'.out); have W8 := Lib.hid (grown_trans' W7.out G4'.out); have OB8 := Lib.hid (OB7.out.kept G4'.out); clear G4'; have q0 := OB8.out.at_ (op9C_name o); clear h4 g4; have TK3 := Lib.hid True.intro)
          | (go_at_call 27; have hx := TK3; clear hx TK3; refine (refGet_any _ m m E2 D8.out o.2.1).mono ?_; rw [HGS.out]; rintro r w9 ⟨rfl, g9⟩; have C9 := Lib.hid (C8.out.kept g9); have S9 := Lib.hid (S8.out.none g9); have D9 := Lib.hid (D8.out.none g9); have W9 := Lib.hid (grown_trans' W8.out g9); clear g9 q0; have TK4 := Lib.hid True.intro)
          | (have hx := TK4; clear hx TK4; refine wpList_allocC zeroE_run rfl rfl ?_; have TK5 := Lib.hid True.intro)
          | (have hx := TK5; clear hx TK5; refine wpList_storeC (off := 0) (p := enC x) aggE.hi rfl (.tmp 9) (.tmp 66) rfl (enV x) rfl (enC_one x) (CB.new w9 51 (enC zeroEn)) HLX.out (by rw [HLZ.out]; omega) (by first | rfl | go_simp) (by first | rfl | go_simp) ?_; intro w10 h4 g4; rw [over_all _ _ (Nat.le_of_eq (by rw [HLZ.out, HLX.out]))] at h4; have G4' := Lib.hid (none_new (grown_alloc w9 (.cells (enC zeroEn).toArray 51) none) g4 (Nat.le_refl _)); have Y10 := Lib.hid h4; have C10 := Lib.hid (C9.out.kept G4'.out); have S10 := Lib.hid (S9.out.none G4'.out); have D10 := Lib.hid (D9.out.none G4'.out); have W10 := Lib.hid (grown_trans' W9.out G4'.out); clear G4'; clear h4 g4; have TK6 := Lib.hid True.intro)
          | (go_at_call 28; have hx := TK6; clear hx TK6; refine (list_any _ c b M2 S10.out (by have := HLM2.out; omega)).mono ?_; rintro r w11 ⟨vl, ks, rfl, hk, hv, g11⟩; rw [RL.out.list S10.out.2.2.2 S10.out.2.1.1.1 hk] at hv; obtain ⟨A11, c11, hv11, -⟩ := hv.shape; rw [List.length_map, HN9E.out] at hv11; subst hv11; have RW11 := Lib.hid hv; have G11 := Lib.hid g11; have C11 := Lib.hid (C10.out.kept g11); have Y11 := Lib.hid (Y10.out.kept g11); obtain ⟨A9, cx, hcm, -, -⟩ := D10.out.open_; rw [HN9E.out] at hcm; have CM10 := Lib.hid hcm; have q9 := (hcm.kept g11).at_ (i := 0) (v := .slice A9 n9 cx) rfl; clear g11 hk hv hcm; have TK7 := Lib.hid True.intro)
          | (have hx := TK7; clear hx TK7; refine wpList_loadC (off := 0) (p := enC x) aggE rfl (.tmp 7) rfl C11.out (take_all HLX.out) (by rw [HLX.out]; omega) (by first | rfl | go_simp) ?_; have TK8 := Lib.hid True.intro)
          | (have hx := TK8; clear hx TK8; refine wpList_loadC (off := 0) (p := enC x) aggE rfl (.tmp 9) rfl Y11.out (take_all HLX.out) (by rw [HLX.out]; omega) (by first | rfl | go_simp) ?_; have TK9 := Lib.hid True.intro))
        clear q9 heq hbx
        go_loopw [90] (fun v wr => ∃ (j : Nat) (Rs : List (List Value)), j ≤ n9 ∧ v = .int .i64 j ∧ Rs.length = n9 ∧ RowX wr w10.heap.size 51 20 (.slice A11 n9 c11) Rs ∧ (∀ i y, j ≤ i → E2[i]? = some y → Rs[i]? = some (enC y)) ∧ w10.grownBy wr none) (fun v _ => n9 - (intOf v).toNat)
        case atStart => exact ⟨0, _, Nat.zero_le _, rfl, by rw [List.length_map]; exact HN9E.out, RW11.out, (fun i y _ hy => by rw [List.getElem?_map, hy]; rfl), G11.out⟩
        case round =>
          rename World => wi
          obtain ⟨j, Rs, hj, rfl, hrl, hrow, hrs, hWi⟩ := hrel
          have RWI := Lib.hid hrow
          have WI := Lib.hid hWi
          have HRL := Lib.hid hrl
          have HRS := Lib.hid hrs
          have hn16 := HN9.out
          clear hrow hWi hrl hrs
          by_cases hjl : j < n9
          · have HJN := Lib.hid (show (j : Int) < (n9 : Int) by omega)
            have hjli : (j : Int) < (n9 : Int) := HJN.out
            have hjE : j < E2.length := by rw [HN9E.out]; exact hjl
            obtain ⟨e, he⟩ : ∃ e, E2[j]? = some e := ⟨_, List.getElem?_eq_getElem hjE⟩
            have hre := HRS.out j e (Nat.le_refl _) he
            obtain ⟨gl, cl, cs, hvl, hbg, hcb, hnc, hcl, htk, -⟩ := rowX_open RWI.out (by rw [HRL.out]; omega)
            have hh := Value.slice.inj hvl
            have hv1 := hh.1
            have hv3 := hh.2.2
            clear hh hvl
            subst hv1
            subst hv3
            obtain ⟨A5, c5, hv5, hsr, -⟩ := RWI.out.shape
            have hh := Value.slice.inj hv5
            have hv6 := hh.1
            have hv7 := hh.2.2
            clear hh hv5
            subst hv6
            subst hv7
            obtain ⟨hjr, hjre⟩ := List.getElem?_eq_some_iff.1 hre
            obtain ⟨ab1, ao1, hab, -, hcl1⟩ := hsr.elem (k := j) hjr
            injection hab with hab
            injection hab with hab1 hab2
            subst hab1 hab2
            rw [hjre] at hcl1
            have HCBL := Lib.hid hcb
            have HCLL := Lib.hid hcl
            have HNCL := Lib.hid hnc
            have FIXL := Lib.hid (show ∀ x, wi.grownBy x none → ∀ q v, (enC e)[q]? = some v → x.cell? ⟨gl, j * 20 + q, none⟩ = some v from fun x hx q v hq => by
              rw [(below_of_none hx).cell (p := ⟨gl, _, none⟩) HCBL.out.lt]
              have := hcl1 q v hq
              rwa [Nat.zero_add, Nat.mul_comm] at this)
            obtain ⟨ab2, ao2, c9, hfix, -, -, hok⟩ := ls_fix (D10.out.none WI.out) he HCBL.out
            rw [HN9E.out] at hfix
            have hcc := (hfix wi (World.grownBy.refl _ _)).1.symm.trans (CM10.out.kept WI.out)
            injection hcc with hcc
            injection hcc with hcc
            injection hcc with hcc
            injection hcc with hcc
            simp at hcc
            obtain ⟨rfl, rfl⟩ := hcc
            have FIX := Lib.hid hfix
            have HLE := Lib.hid (enC_length hok.lk)
            have HEQ2 := Lib.hid (show ∀ w, (binOp .neq 51 (.agg (enC e).toArray) (.agg (enC e).toArray)).run Tryd.prog w = .ok (.bool false) w from fun w => by rw [run_neqE e e hok.w hok.w w, decide_eq_true rfl]; rfl)
            have HBGL := Lib.hid hbg
            clear hfix hok hre hcb hcl hnc htk hsr hcl1 hjre hbg he
            go_wp2
            refine Inv.region_made (n := 12) (ds := [some 93, some 94, some 95, some 96, some 97, some 98, some 99, some 100, some 101, some 102, some 103, some 104]) (fun x => World.grownBy wi x none) (BpfF24 e gl ab2 ao2 n9 c9 c11 m j) (by kernel_rfl) (by kernel_rfl) rfl (by kernel_rfl) (fun _ _ hg h => grown_trans' h hg) (fun i v x y _ _ h => BpfF24.kept i v x y h) (grown_drew (World.grownBy.refl wi none)) ⟨⟨⟨⟨⟨⟨⟨⟨⟨⟨⟨⟨trivial, ?_⟩, ?_⟩, ?_⟩, ?_⟩, ?_⟩, ?_⟩, ?_⟩, ?_⟩, ?_⟩, ?_⟩, ?_⟩, ?_⟩ ?_
            · refine Inv.duty_plain rfl rfl (fun L vs a x hG dep up val ev out K hK => ?_)
              have e11 : a.eval (.tmp 11) = .slice (some ⟨gl, 0, none⟩) n9 c11 := (out 11 (by kernel_rfl)).trans rfl
              refine Inv.wp_value (v := .slice (some ⟨gl, 0, none⟩) n9 c11) ?_ (hK.out _ _ (World.grownBy.refl x _) rfl)
              clear hK K dep up val ev out
              generalize a.eval = ρ at *
              (simp [execOp, go_sem, *]; done)
            · refine Inv.duty_plain rfl rfl (fun L vs a x hG dep up val ev out K hK => ?_)
              have e12 : a.eval (.tmp 12) = .int .i64 j := (out 12 (by kernel_rfl)).trans rfl
              refine Inv.wp_value (v := .int .i64 j) ?_ (hK.out _ _ (World.grownBy.refl x _) rfl)
              clear hK K dep up val ev out
              generalize a.eval = ρ at *
              (simp [execOp, go_sem, *]; done)
            · refine Inv.duty_plain rfl rfl (fun L vs a x hG dep up val ev out K hK => ?_)
              have L93 := dep 0 (by kernel_rfl)
              have e93 : a.eval (.tmp 93) = .slice (some ⟨gl, 0, none⟩) n9 c11 := (ev 0 93 L93 (by kernel_rfl)).trans (val 0 L93)
              have L94 := dep 1 (by kernel_rfl)
              have e94 : a.eval (.tmp 94) = .int .i64 j := (ev 1 94 L94 (by kernel_rfl)).trans (val 1 L94)
              have h1 := HJN.out
              have h2 := HN9.out
              refine Inv.wp_value (v := .pointer (some ⟨gl, j * 20, none⟩)) ?_ (hK.out _ _ (World.grownBy.refl x _) rfl)
              clear hK K dep up val ev out
              generalize a.eval = ρ at *
              (simp [execOp, go_sem, *]; done)
            · refine Inv.duty_plain rfl rfl (fun L vs a x hG dep up val ev out K hK => ?_)
              have L95 := dep 2 (by kernel_rfl)
              have e95 : a.eval (.tmp 95) = .pointer (some ⟨gl, j * 20, none⟩) := (ev 2 95 L95 (by kernel_rfl)).trans (val 2 L95)
              exact wp_loadX aggE (.tmp 95) rfl (b := gl) (off := j * 20) (FIXL.out x hG) HLE.out e95 (hK.out _ _ (World.grownBy.refl x _) rfl)
            · refine Inv.duty_plain rfl rfl (fun L vs a x hG dep up val ev out K hK => ?_)
              have e4 : a.eval (.tmp 4) = .pointer (some ⟨m, 0, none⟩) := (out 4 (by kernel_rfl)).trans rfl
              refine Inv.wp_value (v := .pointer (some ⟨m, 0, none⟩)) ?_ (hK.out _ _ (World.grownBy.refl x _) rfl)
              clear hK K dep up val ev out
              generalize a.eval = ρ at *
              (simp [execOp, go_sem, *]; done)
            · refine Inv.duty_plain rfl rfl (fun L vs a x hG dep up val ev out K hK => ?_)
              have L97 := dep 4 (by kernel_rfl)
              have e97 : a.eval (.tmp 97) = .pointer (some ⟨m, 0, none⟩) := (ev 4 97 L97 (by kernel_rfl)).trans (val 4 L97)
              refine Inv.wp_value (v := .pointer (some ⟨m, 0, none⟩)) ?_ (hK.out _ _ (World.grownBy.refl x _) rfl)
              clear hK K dep up val ev out
              generalize a.eval = ρ at *
              (simp [execOp, go_sem, *]; done)
            · refine Inv.duty_plain rfl rfl (fun L vs a x hG dep up val ev out K hK => ?_)
              have L98 := dep 5 (by kernel_rfl)
              have e98 : a.eval (.tmp 98) = .pointer (some ⟨m, 0, none⟩) := (ev 5 98 L98 (by kernel_rfl)).trans (val 5 L98)
              refine Inv.wp_value (v := .pointer (some ⟨m, 0, none⟩)) ?_ (hK.out _ _ (World.grownBy.refl x _) rfl)
              clear hK K dep up val ev out
              generalize a.eval = ρ at *
              (simp [execOp, go_sem, *]; done)
            · refine Inv.duty_plain rfl rfl (fun L vs a x hG dep up val ev out K hK => ?_)
              have L99 := dep 6 (by kernel_rfl)
              have e99 : a.eval (.tmp 99) = .pointer (some ⟨m, 0, none⟩) := (ev 6 99 L99 (by kernel_rfl)).trans (val 6 L99)
              have q0 := (FIX.out x hG).1.at_ (i := 0) (v := .slice (some ⟨ab2, ao2, none⟩) n9 c9) rfl
              refine Inv.wp_value (v := .slice (some ⟨ab2, ao2, none⟩) n9 c9) ?_ (hK.out _ _ (World.grownBy.refl x _) rfl)
              clear hK K dep up val ev out
              generalize a.eval = ρ at *
              (simp [execOp, go_sem, *]; done)
            · refine Inv.duty_plain rfl rfl (fun L vs a x hG dep up val ev out K hK => ?_)
              have e12 : a.eval (.tmp 12) = .int .i64 j := (out 12 (by kernel_rfl)).trans rfl
              refine Inv.wp_value (v := .int .i64 j) ?_ (hK.out _ _ (World.grownBy.refl x _) rfl)
              clear hK K dep up val ev out
              generalize a.eval = ρ at *
              (simp [execOp, go_sem, *]; done)
            · refine Inv.duty_plain rfl rfl (fun L vs a x hG dep up val ev out K hK => ?_)
              have L100 := dep 7 (by kernel_rfl)
              have e100 : a.eval (.tmp 100) = .slice (some ⟨ab2, ao2, none⟩) n9 c9 := (ev 7 100 L100 (by kernel_rfl)).trans (val 7 L100)
              have L101 := dep 8 (by kernel_rfl)
              have e101 : a.eval (.tmp 101) = .int .i64 j := (ev 8 101 L101 (by kernel_rfl)).trans (val 8 L101)
              have h1 := HJN.out
              have h2 := HN9.out
              refine Inv.wp_value (v := .pointer (some ⟨ab2, ao2 + j * 20, none⟩)) ?_ (hK.out _ _ (World.grownBy.refl x _) rfl)
              clear hK K dep up val ev out
              generalize a.eval = ρ at *
              (simp [execOp, go_sem, *]; done)
            · refine Inv.duty_plain rfl rfl (fun L vs a x hG dep up val ev out K hK => ?_)
              have L102 := dep 9 (by kernel_rfl)
              have e102 : a.eval (.tmp 102) = .pointer (some ⟨ab2, ao2 + j * 20, none⟩) := (ev 9 102 L102 (by kernel_rfl)).trans (val 9 L102)
              exact wp_loadX aggE (.tmp 102) rfl (b := ab2) (off := ao2 + j * 20) (FIX.out x hG).2.1 HLE.out e102 (hK.out _ _ (World.grownBy.refl x _) rfl)
            · refine Inv.duty_plain rfl rfl (fun L vs a x hG dep up val ev out K hK => ?_)
              have L96 := dep 3 (by kernel_rfl)
              have e96 : a.eval (.tmp 96) = .agg (enC e).toArray := (ev 3 96 L96 (by kernel_rfl)).trans (val 3 L96)
              have L103 := dep 10 (by kernel_rfl)
              have e103 : a.eval (.tmp 103) = .agg (enC e).toArray := (ev 10 103 L103 (by kernel_rfl)).trans (val 10 L103)
              exact wp_neqV (by kernel_rfl) (.tmp 96) (.tmp 103) rfl e96 e103 HEQ2.out (hK.out _ _ (World.grownBy.refl x _) rfl)
            intro vs w' hG hv
            have hZ : vs 11 = .bool false := hv 11 (by omega)
            simp only [Inv.putAll, Act.put, List.setIfInBounds_toArray, List.set_cons_zero, List.set_cons_succ, Nat.zero_add, Nat.reduceAdd]
            rw [hZ]
            have GI := Lib.hid hG
            have CL := Lib.hid (HCBL.out.kept hG)
            clear hv hZ hG
            go_wp2_with (first
              | refine wpList_buildV rfl rfl (by first | rfl | (go_simp; rfl)) (run_buildE0 _) ?_
              | (refine wpList_storeC (off := j * 20) (p := enC zeroEn) aggE.hi rfl (.tmp 108) (.tmp 107) rfl (.agg (enC zeroEn).toArray) rfl (enC_one zeroEn) CL.out HLZ.out (by have h1 := HCLL.out; have h2 := HNCL.out; have h3 := HRL.out; rw [h1]; omega) (by first | rfl | go_simp) (by first | rfl | go_simp) ?_; intro w5 h5 g5; have C5 := Lib.hid h5; have G5 := Lib.hid g5; clear h5 g5))
            go_roundw
            case rel =>
              refine ⟨j + 1, Rs.set j (enC zeroEn), by omega, by go_num, by rw [List.length_set]; exact HRL.out, ?_, ?_, ?_⟩
              · have h9 := rowX_over (k := j) (p := enC zeroEn) (by rw [HRL.out]; exact RWI.out.none GI.out) (by rw [HRL.out]; omega) HLZ.out CL.out (by rw [Nat.mul_comm]; exact C5.out)
                rw [HRL.out] at h9
                exact h9
              · intro i y hi hy
                rw [List.getElem?_set_ne (by omega)]
                exact HRS.out i y (by omega) hy
              · exact none_new (grown_trans' WI.out GI.out) G5.out HBGL.out
            case measure => simp [intOf]; omega
          · have S12 := Lib.hid (S10.out.none WI.out)
            have D12 := Lib.hid (D10.out.none WI.out)
            have W12 := Lib.hid (grown_trans' W10.out WI.out)
            go_wp2
            go_roundw
            case rel => exact ⟨k + 1, M2, E2, by omega, by go_num, RL.out, S12.out, D12.out, W12.out⟩
            case measure => simp [intOf]; omega
    · go_wp2
      go_ret
      exact ⟨rfl, HW.out⟩
theorem walk_BasePlays (w : World) (hM : ML w) (A : Option Addr) (l : List Op9) (cap : Nat) (hA : SR w w.heap.size A 21 (l.map op9C) cap) (hl : ∀ o ∈ l, op9W o) :
    Calls Tryd.prog 5 #[.slice A l.length cap] w fun x w' => x = .returned (.bool true) ∧ Below w.heap.size w w' := by
  have go : Calls Tryd.prog 5 #[.slice A l.length cap] w fun x w' => x = .returned (.bool true) ∧ w.grownBy w' none := by
    cases hg : greatO9 l with
    | true => exact bplays_great w hM A l _ cap rfl hA hl hg
    | false => exact bplays_in w hM A l _ cap rfl hA hl hg
  exact go.mono fun x w' h => ⟨h.1, below_of_none h.2⟩
end Go.Proofs.YtejmbabeniekhaaDoor
