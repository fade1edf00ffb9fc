/- The walk of base's Put. -/
import Derived.Test.YtejmbabeniekhaaDoorBsb
namespace Go.Proofs.YtejmbabeniekhaaDoor
open Go.RowKit Go.Maps Go.WideMaps

/-- New memory is made, or one block of the new memory is written, which stays one of n cells. -/
def WrN (B0 : Nat) (t : TypeId) (n : Nat) (x y : World) : Prop := x.grownBy y none ∨ ∃ g, B0 ≤ g ∧ x.grownBy y (some g) ∧ ∃ cs, CB y g t cs ∧ cs.length = n
theorem WrN.refl {B0 n : Nat} {t : TypeId} (x : World) : WrN B0 t n x x := .inl (World.grownBy.refl x _)
theorem WrN.block {B0 n g : Nat} {t : TypeId} {x y : World} {cs : List Value} (h : WrN B0 t n x y) (hc : CB x g t cs) (hl : cs.length = n) : ∃ cs, CB y g t cs ∧ cs.length = n := by
  rcases h with h | ⟨g', _, h2, cs', h3, h4⟩
  · exact ⟨cs, hc.kept h, hl⟩
  · by_cases e : g = g'
    · subst e; exact ⟨cs', h3, h4⟩
    · exact ⟨cs, hc.grown h2 e, hl⟩
theorem WrN.step {B0 n c b g0 : Nat} {t : TypeId} {x y w : World} {M : Em} {e : En} (h : WrN B0 t n x y) (hG : BS x c b M ∧ CB x g0 51 (enC e) ∧ w.grownBy x none ∧ B0 ≤ x.heap.size) (hlt : c < B0 ∧ b < B0 ∧ g0 < B0) (hw : w.heap.size ≤ B0) :
    BS y c b M ∧ CB y g0 51 (enC e) ∧ w.grownBy y none ∧ B0 ≤ y.heap.size := by
  obtain ⟨h1, h2, h3, h4⟩ := hG
  rcases h with h | ⟨g, hg, h, -⟩
  · exact ⟨h1.none h, h2.kept h, grown_trans' h3 h, Nat.le_trans h4 h.size⟩
  · exact ⟨h1.far h (by omega) (by omega), h2.grown h (by omega), none_new h3 h (by omega), Nat.le_trans h4 h.size⟩
theorem over_len (cs p : List Value) (h : p.length ≤ cs.length) : (over cs 0 p).length = cs.length := by
  simp [over]; omega
/-- A region by its operations' duties, whatever may become of the world in them. -/
theorem region_wr {P : Program} {ops : Array Oper} {Q : Exit → Act → World → Prop} {a0 : Act} {id : Nat} {w : World} (n : Nat) (ds : List (Option Tmp)) (T : World → World → Prop) (G : World → Prop) (F : Nat → Value → World → Prop) (hm : P.follows .mixedOrders = true) (hok : Inv.okB ops a0.tmps.size = true) (hn : ops.size = n) (hds : (List.range n).map (Inv.dstOf ops) = ds)
    (hG : ∀ x y, T x y → G x → G y) (hF : ∀ j v x y, T x y → G x → F j v x → F j v y) (h0 : G w.drew)
    (step : Inv.Duties P ops Q a0 T G F n)
    (fin : ∀ vs w', G w' → (∀ i, i < n → F i (vs i) w') → Q .normal (Inv.putAll vs ds 0 a0) w') : (Code.region id ops true).wp P Q a0 w := by
  subst hn
  refine Inv.region_inv T G F hm hok hG hF h0 (Inv.duties_all step) (fun vs w' hg hf => ?_)
  rw [Inv.canon_putAll, hds]
  exact fin vs w' hg hf
/-- 'len(m)', its guard met. -/
theorem wpList_lenMg {P : Program} {k : TypeId} {α β : Type} {kv : α → Value} {vv : β → Value} {M : List (α × β)} {w : World} {ops : Array Oper} {rest : List Oper} {o : Oper} {a : Act} {Q : Exit → Act → World → Prop} {b : Nat} {t e : TypeId}
    (hw : Region.wanted o (yielded ops a.tmps) = true) (m : Operand) (hop : o.op = Op.call { callee := Callee.builtin Builtin.len, args := #[m], argTypes := #[t] }) (ht : P.underlying t = some (.map k e))
    (h : MT P k kv vv w b M) (hm : a.eval m = .map (some b)) (hK : wpList P ops Q rest (a.put o.dst (.int .i64 M.length)) w) : wpList P ops Q (o :: rest) a w := by
  refine wpList_step fun K' hK' => ?_
  rw [if_pos hw]
  unfold Oper.wp
  have := h.2.len ht o.type
  rw [size_datM] at this
  simp [execOp, hop, resolve, invoke, builtin, hm, this, Result.andThen]
  exact hK' _ _ hK
theorem EmOk.put1 {M : Em} (h : EmOk M) {e : En} (he : enOk e) : EmOk (withoutM M e.1 ++ [(e.1, e)]) := by
  intro p hp
  rcases List.mem_append.1 hp with hp | hp
  · exact h.sub e.1 p hp
  · rw [List.mem_singleton.1 hp]; exact ⟨rfl, he⟩

def BscF (e V : En) (c b g0 B0 : Nat) (B : Bool) : Nat → Value → World → Prop
  | 0, v, _ => v = .pointer (some ⟨c, 0, none⟩)
  | 1, v, _ => v = .pointer (some ⟨c, 0, none⟩)
  | 2, v, _ => v = .pointer (some ⟨c, 0, none⟩)
  | 3, v, _ => v = .map (some b)
  | 4, v, _ => v = .pointer (some ⟨g0, 0, none⟩)
  | 5, v, _ => v = .string ⟨e.1.toArray⟩
  | 6, v, _ => v = .tuple #[enV V, .bool B]
  | 7, v, _ => v = .tuple #[enV V, .bool B]
  | 8, v, _ => v = enV V
  | 9, v, _ => v = .bool B
  | 10, v, x => ∃ g, v = .pointer (some ⟨g, 0, none⟩) ∧ B0 ≤ g ∧ ∃ cs, CB x g 51 cs ∧ cs.length = 20
  | 11, _, _ => True
  | 12, v, _ => v = .bool B
  | _, _, _ => True
theorem BscF.kept {e V : En} {c b g0 B0 : Nat} {B : Bool} : ∀ (j : Nat) (v : Value) (x y : World), WrN B0 51 20 x y → BscF e V c b g0 B0 B j v x → BscF e V c b g0 B0 B j v y
  | 0, _, _, _, _, h => h
  | 1, _, _, _, _, h => h
  | 2, _, _, _, _, h => h
  | 3, _, _, _, _, h => h
  | 4, _, _, _, _, h => h
  | 5, _, _, _, _, h => h
  | 6, _, _, _, _, h => h
  | 7, _, _, _, _, h => h
  | 8, _, _, _, _, h => h
  | 9, _, _, _, _, h => h
  | 10, _, _, _, hg, ⟨g, h1, h2, cs, h3, h4⟩ => ⟨g, h1, h2, hg.block h3 h4⟩
  | 11, _, _, _, _, h => h
  | 12, _, _, _, _, h => h
  | _ + 13, _, _, _, _, _ => by simp [BscF]

/-- What Put leaves. -/
def PutR (w : World) (c b : Nat) (r : Em × Int) (x : Ending) (w' : World) : Prop := x = .returned (.int .i64 r.2) ∧ BS w' c b r.1 ∧ w.grownBy w' (some b)

set_option maxRecDepth 10000 in
set_option maxHeartbeats 1000000 in
theorem put_wrong (e : En) (he : enOk e) (w : World) (hM : ML w) (c b : Nat) (M : Em) (h : BS w c b M) (hr : rightE e = false) :
    Calls Tryd.prog 24 #[.pointer (some ⟨c, 0, none⟩), .agg (enC e).toArray] w (PutR w c b (M, 1)) := by
  have HE := Lib.hid he
  have HR := Lib.hid hr
  have HLE := Lib.hid (enC_length he.lk)
  have HM := Lib.hid (show ML (w.alloc (.cells (enC e).toArray 51)) from hM.below ((Below.refl _ _).alloc (Nat.le_refl _) _))
  have HB := Lib.hid (CB.new w 51 (enC e))
  have HS := Lib.hid (h.none (grown_alloc w (.cells (enC e).toArray 51) none))
  have HG := Lib.hid (grown_alloc w (.cells (enC e).toArray 51) none)
  clear h he hr hM
  go_enter Tryd.func24, Tryd.ntmps24
  go_wp2_with (first
    | (refine wpList_loadC (off := 0) (p := enC e) aggE rfl (.tmp 3) rfl HB.out (take_all HLE.out) (by rw [HLE.out]; omega) (by first | rfl | go_simp) ?_)
    | (go_at_call 56; refine (isRight_any e HE.out _ HM.out).mono ?_; rintro r w1 ⟨rfl, g1⟩; rw [HR.out]; have S1 := Lib.hid (HS.out.none g1); have G1 := Lib.hid (grown_trans' HG.out g1); clear g1))
  go_ret
  exact ⟨rfl, S1.out, grown_some G1.out b⟩

set_option maxRecDepth 10000 in
set_option maxHeartbeats 2000000 in
theorem put_right (e : En) (he : enOk e) (w : World) (hM : ML w) (c b : Nat) (M : Em) (h : BS w c b M) (hlen : M.length ≤ 1000000) (hr : rightE e = true) (r : Em × Int) (hp : r = if e.1 ∉ keysM M ∧ 16 ≤ M.length then (M, 2) else (withoutM M e.1 ++ [(e.1, e)], 0)) :
    Calls Tryd.prog 24 #[.pointer (some ⟨c, 0, none⟩), .agg (enC e).toArray] w (PutR w c b r) := by
  have HE := Lib.hid he
  have HR := Lib.hid hr
  have HLE := Lib.hid (enC_length he.lk)
  have HLZ := Lib.hid (enC_length (e := zeroEn) (zeros_length 16))
  have HOK := Lib.hid (okS e.1 (by have := he.ln; omega))
  have HM := Lib.hid (show ML (w.alloc (.cells (enC e).toArray 51)) from hM.below ((Below.refl _ _).alloc (Nat.le_refl _) _))
  have HB := Lib.hid (CB.new w 51 (enC e))
  have HS := Lib.hid (h.none (grown_alloc w (.cells (enC e).toArray 51) none))
  have HG := Lib.hid (grown_alloc w (.cells (enC e).toArray 51) none)
  have HLN := Lib.hid hlen
  obtain ⟨V, B, hV, hBk⟩ : ∃ (V : En) (B : Bool), ((∀ u, (e.1, u) ∈ M → enV V = enV u ∧ B = true) ∧ (e.1 ∉ keysM M → enV V = .agg (enC zeroEn).toArray ∧ B = false) ∧ V.2.1.length = 16) ∧ (B = true ↔ e.1 ∈ keysM M) := by
    by_cases hin : e.1 ∈ keysM M
    · obtain ⟨v, hv⟩ := mem_keysM.1 hin
      exact ⟨v, true, ⟨fun u hu => ⟨by rw [key_mem h.2.1.1.1 hu hv], rfl⟩, fun h2 => absurd hin h2, (h.2.2.2 _ hv).2.lk⟩, fun _ => hin, fun _ => rfl⟩
    · exact ⟨zeroEn, false, ⟨fun u hu => absurd (mem_keysM.2 ⟨u, hu⟩) hin, fun _ => ⟨rfl, rfl⟩, zeros_length 16⟩, (fun h2 => by cases h2), fun h2 => absurd h2 hin⟩
  have HV1 := Lib.hid hV.1
  have HV2 := Lib.hid hV.2.1
  have HLV := Lib.hid (enC_length hV.2.2)
  have HNE := Lib.hid (show w.heap.size ≠ c ∧ w.heap.size ≠ b from ⟨fun e => by have := h.lt; omega, fun e => by have := h.lt; omega⟩)
  have HLB := Lib.hid (show c < w.heap.size ∧ b < w.heap.size from h.lt)
  clear h he hr hM hlen hV
  go_enter Tryd.func24, Tryd.ntmps24
  go_wp2_with (first
    | (refine wpList_loadC (off := 0) (p := enC e) aggE rfl (.tmp 3) rfl HB.out (take_all HLE.out) (by rw [HLE.out]; omega) (by first | rfl | go_simp) ?_)
    | (go_at_call 56; refine (isRight_any e HE.out _ HM.out).mono ?_; rintro r w1 ⟨rfl, g1⟩; rw [HR.out]; have HS1 := Lib.hid (HS.out.none g1); have HB1 := Lib.hid (HB.out.kept g1); have G1 := Lib.hid (grown_trans' HG.out g1); have HSZ1 := Lib.hid (show w.heap.size + 1 ≤ w1.heap.size from Nat.le_trans (Nat.le_of_eq (World.size_alloc _ _).symm) g1.size); clear g1))
  have HW1 := Lib.hid (Nat.le_refl w1.heap.size)
  have HW0 := Lib.hid (show w1.heap.size ≤ w1.drew.heap.size from Nat.le_refl _)
  have HLT := Lib.hid (show c < w1.heap.size ∧ b < w1.heap.size ∧ w.heap.size < w1.heap.size by have h1 := HLB.out; have h2 := HSZ1.out; omega)
  generalize hg0 : w.heap.size = g0 at *
  have HG0 := Lib.hid hg0
  generalize hB0 : w1.heap.size = B0 at *
  have HWB := Lib.hid hB0
  clear hg0 hB0
  refine region_wr (n := 13) (ds := [some 11, some 12, some 13, some 14, some 15, some 16, some 17, some 10, some 18, some 19, some 5, none, some 6]) (WrN B0 51 20) (fun x => BS x c b M ∧ CB x g0 51 (enC e) ∧ w1.grownBy x none ∧ B0 ≤ x.heap.size) (BscF e V c b g0 B0 B) (by kernel_rfl) (by kernel_rfl) rfl (by kernel_rfl) (fun x y hg h => hg.step h HLT.out (Nat.le_of_eq HWB.out)) (fun j v x y hg _ h => BscF.kept j v x y hg h) ⟨HS1.out, HB1.out, grown_drew (World.grownBy.refl w1 none), HW0.out⟩ ⟨⟨⟨⟨⟨⟨⟨⟨⟨⟨⟨⟨⟨trivial, ?_⟩, ?_⟩, ?_⟩, ?_⟩, ?_⟩, ?_⟩, ?_⟩, ?_⟩, ?_⟩, ?_⟩, ?_⟩, ?_⟩, ?_⟩ ?_
  · refine Inv.duty_plain rfl rfl (fun L vs a x hG dep up val ev out K hK => ?_)
    obtain ⟨hS, hB, hW, hZ⟩ := hG
    have e0 : a.eval (.tmp 0) = .pointer (some ⟨c, 0, none⟩) := (out 0 (by kernel_rfl)).trans rfl
    refine Inv.wp_value (v := .pointer (some ⟨c, 0, none⟩)) ?_ (hK.out _ _ (WrN.refl x) rfl)
    clear hK K dep up val ev out
    generalize a.eval = ρ at *
    (simp [execOp, go_sem, *]; done)
  · refine Inv.duty_plain rfl rfl (fun L vs a x hG dep up val ev out K hK => ?_)
    obtain ⟨hS, hB, hW, hZ⟩ := hG
    have L11 := dep 0 (by kernel_rfl)
    have e11 : a.eval (.tmp 11) = .pointer (some ⟨c, 0, none⟩) := (ev 0 11 L11 (by kernel_rfl)).trans (val 0 L11)
    refine Inv.wp_value (v := .pointer (some ⟨c, 0, none⟩)) ?_ (hK.out _ _ (WrN.refl x) rfl)
    clear hK K dep up val ev out
    generalize a.eval = ρ at *
    (simp [execOp, go_sem, *]; done)
  · refine Inv.duty_plain rfl rfl (fun L vs a x hG dep up val ev out K hK => ?_)
    obtain ⟨hS, hB, hW, hZ⟩ := hG
    have L12 := dep 1 (by kernel_rfl)
    have e12 : a.eval (.tmp 12) = .pointer (some ⟨c, 0, none⟩) := (ev 1 12 L12 (by kernel_rfl)).trans (val 1 L12)
    refine Inv.wp_value (v := .pointer (some ⟨c, 0, none⟩)) ?_ (hK.out _ _ (WrN.refl x) rfl)
    clear hK K dep up val ev out
    generalize a.eval = ρ at *
    (simp [execOp, go_sem, *]; done)
  · refine Inv.duty_plain rfl rfl (fun L vs a x hG dep up val ev out K hK => ?_)
    obtain ⟨hS, hB, hW, hZ⟩ := hG
    have L13 := dep 2 (by kernel_rfl)
    have e13 : a.eval (.tmp 13) = .pointer (some ⟨c, 0, none⟩) := (ev 2 13 L13 (by kernel_rfl)).trans (val 2 L13)
    have q0 : x.cell? ⟨c, 0, none⟩ = some (.map (some b)) := hS.1.at_ rfl
    refine Inv.wp_value (v := .map (some b)) ?_ (hK.out _ _ (WrN.refl x) rfl)
    clear hK K dep up val ev out hS hB hW hZ
    generalize a.eval = ρ at *
    (simp [execOp, go_sem, *]; done)
  · refine Inv.duty_plain rfl rfl (fun L vs a x hG dep up val ev out K hK => ?_)
    obtain ⟨hS, hB, hW, hZ⟩ := hG
    have e3 : a.eval (.tmp 3) = .pointer (some ⟨g0, 0, none⟩) := (out 3 (by kernel_rfl)).trans rfl
    refine Inv.wp_value (v := .pointer (some ⟨g0, 0, none⟩)) ?_ (hK.out _ _ (WrN.refl x) rfl)
    clear hK K dep up val ev out
    generalize a.eval = ρ at *
    (simp [execOp, go_sem, *]; done)
  · refine Inv.duty_plain rfl rfl (fun L vs a x hG dep up val ev out K hK => ?_)
    obtain ⟨hS, hB, hW, hZ⟩ := hG
    have L15 := dep 4 (by kernel_rfl)
    have e15 : a.eval (.tmp 15) = .pointer (some ⟨g0, 0, none⟩) := (ev 4 15 L15 (by kernel_rfl)).trans (val 4 L15)
    have q0 : x.cell? ⟨g0, 0, none⟩ = some (.string ⟨e.1.toArray⟩) := hB.at_ (enC_name e)
    refine Inv.wp_value (v := .string ⟨e.1.toArray⟩) ?_ (hK.out _ _ (WrN.refl x) rfl)
    clear hK K dep up val ev out hS hB hW hZ
    generalize a.eval = ρ at *
    (simp [execOp, go_sem, *]; done)
  · refine Inv.duty_plain rfl rfl (fun L vs a x hG dep up val ev out K hK => ?_)
    obtain ⟨hS, hB, hW, hZ⟩ := hG
    have L14 := dep 3 (by kernel_rfl)
    have e14 : a.eval (.tmp 14) = .map (some b) := (ev 3 14 L14 (by kernel_rfl)).trans (val 3 L14)
    have L16 := dep 5 (by kernel_rfl)
    have e16 : a.eval (.tmp 16) = .string ⟨e.1.toArray⟩ := (ev 5 16 L16 (by kernel_rfl)).trans (val 5 L16)
    exact wp_lookV keyedS strV_inj (.tmp 14) (.tmp 16) rfl Tryd.underlying108 zeroE_run hS.2.1 e14 e.1 HOK.out e16 (enV V) B HV1.out HV2.out (hK.out _ _ (WrN.refl x) rfl)
  · refine Inv.duty_plain rfl rfl (fun L vs a x hG dep up val ev out K hK => ?_)
    obtain ⟨hS, hB, hW, hZ⟩ := hG
    have L17 := dep 6 (by kernel_rfl)
    have e17 : a.eval (.tmp 17) = .tuple #[enV V, .bool B] := (ev 6 17 L17 (by kernel_rfl)).trans (val 6 L17)
    refine Inv.wp_value (v := .tuple #[enV V, .bool B]) ?_ (hK.out _ _ (WrN.refl x) rfl)
    clear hK K dep up val ev out
    generalize a.eval = ρ at *
    (simp [execOp, go_sem, *]; done)
  · refine Inv.duty_plain rfl rfl (fun L vs a x hG dep up val ev out K hK => ?_)
    obtain ⟨hS, hB, hW, hZ⟩ := hG
    have L10 := dep 7 (by kernel_rfl)
    have e10 : a.eval (.tmp 10) = .tuple #[enV V, .bool B] := (ev 7 10 L10 (by kernel_rfl)).trans (val 7 L10)
    refine Inv.wp_value (v := enV V) ?_ (hK.out _ _ (WrN.refl x) rfl)
    clear hK K dep up val ev out
    generalize a.eval = ρ at *
    (simp [execOp, go_sem, *]; done)
  · refine Inv.duty_plain rfl rfl (fun L vs a x hG dep up val ev out K hK => ?_)
    obtain ⟨hS, hB, hW, hZ⟩ := hG
    have L10 := dep 7 (by kernel_rfl)
    have e10 : a.eval (.tmp 10) = .tuple #[enV V, .bool B] := (ev 7 10 L10 (by kernel_rfl)).trans (val 7 L10)
    refine Inv.wp_value (v := .bool B) ?_ (hK.out _ _ (WrN.refl x) rfl)
    clear hK K dep up val ev out
    generalize a.eval = ρ at *
    (simp [execOp, go_sem, *]; done)
  · refine Inv.duty_plain rfl rfl (fun L vs a x hG dep up val ev out K hK => ?_)
    obtain ⟨hS, hB, hW, hZ⟩ := hG
    exact wp_allocC (cs := enC zeroEn) zeroE_run rfl (hK.out _ _ (.inl (grown_alloc x _ _)) ⟨_, rfl, hZ, _, CB.new _ _ _, HLZ.out⟩)
  · refine Inv.duty_plain rfl rfl (fun L vs a x hG dep up val ev out K hK => ?_)
    obtain ⟨hS, hB, hW, hZ⟩ := hG
    have L5 := dep 10 (by kernel_rfl)
    have e5 := ev 10 5 L5 (by kernel_rfl)
    have f5 := val 10 L5
    have L18 := dep 8 (by kernel_rfl)
    have e18 : a.eval (.tmp 18) = enV V := (ev 8 18 L18 (by kernel_rfl)).trans (val 8 L18)
    obtain ⟨g, hv5, hg5, cs5, hc5, hl5⟩ := f5
    exact wp_storeC (off := 0) (p := enC V) aggE.hi rfl (.tmp 5) (.tmp 18) rfl (enV V) rfl (enC_one V) hc5 HLV.out (by rw [hl5]; omega) (e5.trans hv5) e18 (fun w' h2 g2 => hK.out _ _ (.inr ⟨g, hg5, g2, _, h2, by rw [over_len _ _ (by rw [HLV.out, hl5]; omega), hl5]⟩) trivial)
  · refine Inv.duty_plain rfl rfl (fun L vs a x hG dep up val ev out K hK => ?_)
    obtain ⟨hS, hB, hW, hZ⟩ := hG
    have L19 := dep 9 (by kernel_rfl)
    have e19 : a.eval (.tmp 19) = .bool B := (ev 9 19 L19 (by kernel_rfl)).trans (val 9 L19)
    refine Inv.wp_value (v := .bool B) ?_ (hK.out _ _ (WrN.refl x) rfl)
    clear hK K dep up val ev out
    generalize a.eval = ρ at *
    (simp [execOp, go_sem, *]; done)
  intro vs w' hG hv
  have hZ : vs 12 = .bool B := hv 12 (by omega)
  simp only [Inv.putAll, Act.put, List.setIfInBounds_toArray, List.set_cons_zero, List.set_cons_succ, Nat.zero_add, Nat.reduceAdd]
  rw [hZ]
  clear hv hZ
  have S2 := Lib.hid hG.1
  have B2 := Lib.hid hG.2.1
  have G2 := Lib.hid (grown_trans' G1.out hG.2.2.1)
  clear hG
  have q0 : w'.cell? ⟨c, 0, none⟩ = some (.map (some b)) := S2.out.1.at_ rfl
  cases hb : B with
  | true =>
    have HP := Lib.hid (show r = (withoutM M e.1 ++ [(e.1, e)], 0) by rw [hp, if_neg (fun h => h.1 (hBk.1 hb))])
    clear hp hBk hb
    go_wp2_with (first
      | (refine wpList_loadC (off := 0) (p := enC e) aggE rfl (.tmp 3) rfl B2.out (take_all HLE.out) (by rw [HLE.out]; omega) (by first | rfl | go_simp) ?_)
      | (go_at_call 57; refine (apart_any e HE.out _).mono ?_; rintro r w3 ⟨rfl, g3⟩; have S3 := Lib.hid (S2.out.none g3); have B3 := Lib.hid (B2.out.kept g3); have G3 := Lib.hid (grown_trans' G2.out g3); clear g3)
      | (refine wpList_storeC (off := 0) (p := enC e) aggE.hi rfl (.tmp 3) (.tmp 31) rfl (.agg (enC e).toArray) rfl (enC_one e) B3.out HLE.out (by rw [HLE.out]; omega) (by first | rfl | go_simp) (by first | rfl | go_simp) ?_; intro w4 h4 g4; rw [over_all _ _ (Nat.le_refl _)] at h4; have B4 := Lib.hid h4; have S4 := Lib.hid (S3.out.far g4 HNE.out.1 HNE.out.2); have G4 := Lib.hid (none_new G3.out g4 (Nat.le_of_eq HG0.out)); clear h4 g4))
    have q5 : w4.cell? ⟨c, 0, none⟩ = some (.map (some b)) := S4.out.1.at_ rfl
    have q6 : w4.cell? ⟨g0, 0, none⟩ = some (.string ⟨e.1.toArray⟩) := B4.out.at_ (enC_name e)
    have S5 := Lib.hid (show BS w4.drew c b M from S4.out)
    go_still_tail 7, (by kernel_rfl)
    refine wpStill_step (fun KK hK => ?_)
    refine still_loadC aggE (.tmp 3) rfl B4.out (take_all HLE.out) (by rw [HLE.out]; omega) rfl (hK _ ?_)
    clear hK KK
    repeat still_step
    refine wpStill_nil ?_
    change wpList _ _ _ _ _ w4.drew
    go_wp2_with (refine wpList_putM keyedS strV_inj rfl _ _ _ rfl Tryd.underlying108 S5.out.2.1 (by have := HLN.out; unfold maxLen; omega) rfl e.1 e HOK.out rfl rfl ?_; intro w5 hM5 hT5)
    go_ret
    rw [HP.out]
    exact ⟨rfl, ⟨S5.out.1.grown hT5.grown S5.out.2.2.1, hM5, S5.out.2.2.1, EmOk.put1 S5.out.2.2.2 HE.out⟩, grown_trans' (grown_drew (grown_some G4.out b)) hT5.grown⟩
  | false =>
    have hin : e.1 ∉ keysM M := fun h => by rw [hBk.2 h] at hb; cases hb
    by_cases h16 : 16 ≤ M.length
    · have HP := Lib.hid (show r = (M, 2) by rw [hp, if_pos ⟨hin, h16⟩])
      have d1 : decide ((16 : Int) ≤ (M.length : Int)) = true := decide_eq_true (by omega)
      clear hp hBk hb hin
      go_wp2_with (refine wpList_lenMg (by first | rfl | go_simp) _ rfl Tryd.underlying108 S2.out.2.1 rfl ?_)
      go_ret
      rw [HP.out]
      exact ⟨rfl, S2.out, grown_some G2.out b⟩
    · have HP := Lib.hid (show r = (withoutM M e.1 ++ [(e.1, e)], 0) by rw [hp, if_neg (fun h => h16 h.2)])
      have d1 : decide ((16 : Int) ≤ (M.length : Int)) = false := decide_eq_false (by omega)
      clear hp hBk hb hin
      go_wp2_with (first
        | (refine wpList_lenMg (by first | rfl | go_simp) _ rfl Tryd.underlying108 S2.out.2.1 rfl ?_)
        | (refine wpList_loadC (off := 0) (p := enC e) aggE rfl (.tmp 3) rfl B2.out (take_all HLE.out) (by rw [HLE.out]; omega) (by first | rfl | go_simp) ?_)
        | (go_at_call 57; refine (apart_any e HE.out _).mono ?_; rintro r w3 ⟨rfl, g3⟩; have S3 := Lib.hid (S2.out.none g3); have B3 := Lib.hid (B2.out.kept g3); have G3 := Lib.hid (grown_trans' G2.out g3); clear g3)
        | (refine wpList_storeC (off := 0) (p := enC e) aggE.hi rfl (.tmp 3) (.tmp 31) rfl (.agg (enC e).toArray) rfl (enC_one e) B3.out HLE.out (by rw [HLE.out]; omega) (by first | rfl | go_simp) (by first | rfl | go_simp) ?_; intro w4 h4 g4; rw [over_all _ _ (Nat.le_refl _)] at h4; have B4 := Lib.hid h4; have S4 := Lib.hid (S3.out.far g4 HNE.out.1 HNE.out.2); have G4 := Lib.hid (none_new G3.out g4 (Nat.le_of_eq HG0.out)); clear h4 g4))
      have q5 : w4.cell? ⟨c, 0, none⟩ = some (.map (some b)) := S4.out.1.at_ rfl
      have q6 : w4.cell? ⟨g0, 0, none⟩ = some (.string ⟨e.1.toArray⟩) := B4.out.at_ (enC_name e)
      have S5 := Lib.hid (show BS w4.drew c b M from S4.out)
      go_still_tail 7, (by kernel_rfl)
      refine wpStill_step (fun KK hK => ?_)
      refine still_loadC aggE (.tmp 3) rfl B4.out (take_all HLE.out) (by rw [HLE.out]; omega) rfl (hK _ ?_)
      clear hK KK
      repeat still_step
      refine wpStill_nil ?_
      change wpList _ _ _ _ _ w4.drew
      go_wp2_with (refine wpList_putM keyedS strV_inj rfl _ _ _ rfl Tryd.underlying108 S5.out.2.1 (by have := HLN.out; unfold maxLen; omega) rfl e.1 e HOK.out rfl rfl ?_; intro w5 hM5 hT5)
      go_ret
      rw [HP.out]
      exact ⟨rfl, ⟨S5.out.1.grown hT5.grown S5.out.2.2.1, hM5, S5.out.2.2.1, EmOk.put1 S5.out.2.2.2 HE.out⟩, grown_trans' (grown_drew (grown_some G4.out b)) hT5.grown⟩

theorem put_any (e : En) (he : enOk e) (w : World) (hM : ML w) (c b : Nat) (M : Em) (h : BS w c b M) (hlen : M.length ≤ 1000000) :
    Calls Tryd.prog 24 #[.pointer (some ⟨c, 0, none⟩), .agg (enC e).toArray] w (PutR w c b (putE M e)) := by
  unfold putE
  cases hr : rightE e with
  | false => rw [if_pos rfl]; exact put_wrong e he w hM c b M h hr
  | true => rw [if_neg (by simp)]; exact put_right e he w hM c b M h hlen hr _ rfl
end Go.Proofs.YtejmbabeniekhaaDoor
