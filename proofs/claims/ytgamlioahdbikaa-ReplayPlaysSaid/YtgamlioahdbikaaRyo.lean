/- The walk of ReplayPlays. -/
import Derived.Test.YtgamlioahdbikaaRyn
import Derived.Test.YtgamlioahdbikaaRyj
namespace Go.Proofs.Ytgamlioahdbikaa
open Go.RowKit Go.Maps

theorem refSeen_any (w : World) (m : Nat) (s : St) (u : Au) (now : Int) (h : RS w m s) (hu : auOk u) (hn : I64 now) (hlen : s.M.length ≤ 1000000) :
    Calls Try.prog 13 #[.pointer (some ⟨m, 0, none⟩), .agg (auC u).toArray, .int .i64 now] w (SeenD w m (seenOf s u now)) := by
  unfold seenOf
  by_cases h1 : far u.2.1 now = true ∨ far now u.2.1 = true
  · rw [if_pos h1]
    exact refSeen_far w m s u now h hu hn h1
  · rw [if_neg h1]
    have f1 : far u.2.1 now = false := by
      cases hf : far u.2.1 now with
      | true => exact absurd (Or.inl hf) h1
      | false => rfl
    have f2 : far now u.2.1 = false := by
      cases hf : far now u.2.1 with
      | true => exact absurd (Or.inr hf) h1
      | false => rfl
    by_cases h2 : s.cl = true ∧ far u.2.1 s.beg = false
    · rw [if_pos h2]
      exact refSeen_shut w m s u now h hu hn f1 f2 h2.1 h2.2
    · rw [if_neg h2]
      refine refSeen_open w m s u now h hu hn f1 f2 ?_ hlen _ rfl
      cases hc : s.cl with
      | false => exact .inl rfl
      | true =>
        cases hf : far u.2.1 s.beg with
        | true => exact .inr ⟨rfl, rfl⟩
        | false => exact absurd ⟨hc, hf⟩ h2

def RyoF (o : Op12) (r : St × Int) (c m g : Nat) : Nat → Value → World → Prop
  | 0, v, _ => v = .pointer (some ⟨c, 0, none⟩)
  | 1, v, _ => v = .pointer (some ⟨g, 1, none⟩)
  | 2, v, _ => v = .agg (auC o.2.1).toArray
  | 3, v, _ => v = .pointer (some ⟨g, 20, none⟩)
  | 4, v, _ => v = .int .i64 o.2.2
  | 5, v, _ => v = .int .i64 r.2
  | 6, v, _ => v = .pointer (some ⟨m, 0, none⟩)
  | 7, v, _ => v = .pointer (some ⟨g, 1, none⟩)
  | 8, v, _ => v = .agg (auC o.2.1).toArray
  | 9, v, _ => v = .pointer (some ⟨g, 20, none⟩)
  | 10, v, _ => v = .int .i64 o.2.2
  | 11, v, _ => v = .int .i64 r.2
  | 12, v, _ => v = .bool false
  | _, _, _ => True
theorem RyoF.kept {o : Op12} {r : St × Int} {c m g : Nat} : ∀ (j : Nat) (v : Value) (x y : World), RyoF o r c m g j v x → RyoF o r c m g j v y
  | 0, _, _, _, h => h
  | 1, _, _, _, h => h
  | 2, _, _, _, h => h
  | 3, _, _, _, h => h
  | 4, _, _, _, h => h
  | 5, _, _, _, h => h
  | 6, _, _, _, h => h
  | 7, _, _, _, h => h
  | 8, _, _, _, h => h
  | 9, _, _, _, h => h
  | 10, _, _, _, h => h
  | 11, _, _, _, h => h
  | 12, _, _, _, h => h
  | _ + 13, _, _, _, _ => by simp [RyoF]
def RyoF16 (r : St × Int) (c m : Nat) (A9 : Option Addr) (n9 c9 : Nat) : Nat → Value → World → Prop
  | 0, v, _ => v = .pointer (some ⟨c, 0, none⟩)
  | 1, v, _ => v = .int .i64 (r.1.M.length : Int)
  | 2, v, _ => v = .pointer (some ⟨m, 0, none⟩)
  | 3, v, _ => v = .pointer (some ⟨m, 0, none⟩)
  | 4, v, _ => v = .pointer (some ⟨m, 0, none⟩)
  | 5, v, _ => v = .slice A9 n9 c9
  | 6, v, _ => v = .int .i64 (n9 : Int)
  | 7, v, _ => v = .bool false
  | _, _, _ => True
theorem RyoF16.kept {r : St × Int} {c m : Nat} {A9 : Option Addr} {n9 c9 : Nat} : ∀ (j : Nat) (v : Value) (x y : World), RyoF16 r c m A9 n9 c9 j v x → RyoF16 r c m A9 n9 c9 j v y
  | 0, _, _, _, h => h
  | 1, _, _, _, h => h
  | 2, _, _, _, h => h
  | 3, _, _, _, h => h
  | 4, _, _, _, h => h
  | 5, _, _, _, h => h
  | 6, _, _, _, h => h
  | 7, _, _, _, h => h
  | _ + 8, _, _, _, _ => by simp [RyoF16]

def RyoT (b m : Nat) : Nat → World → World → Prop
  | 5, x, y => x.grownBy y (some b)
  | 11, x, y => x.grownBy y (some m)
  | _, x, y => x = y
/-- While the two sides take one authenticator. -/
def RyoG (w : World) (c b m g : Nat) (s : St) (r : St × Int) (o : Op12) (L : Nat → Bool) (x : World) : Prop :=
  (L 5 = false → CS x c b s) ∧ (L 5 = true → CS x c b r.1) ∧ (L 11 = false → RS x m s) ∧ (L 11 = true → RS x m r.1) ∧ CB x g 37 (opC o) ∧ w.grownBy x none
theorem moreT_at {L : Nat → Bool} {i : Nat} : Inv.moreT i L i = true := by unfold Inv.moreT; simp
section
variable {w x y : World} {c b m g i : Nat} {s : St} {r : St × Int} {o : Op12} {L : Nat → Bool}
theorem RyoG.more (h5 : i ≠ 5) (h11 : i ≠ 11) (h : RyoG w c b m g s r o L x) : RyoG w c b m g s r o (Inv.moreT i L) x := by
  unfold RyoG at *
  rw [moreT_ne h5, moreT_ne h11]
  exact h
theorem RyoG.first (hgb : g ≠ b) (hwb : w.heap.size ≤ b) (h0 : CS x c b s) (h1 : CS y c b r.1) (hg : x.grownBy y (some b)) (h : RyoG w c b m g s r o L x) : RyoG w c b m g s r o (Inv.moreT 5 L) y := by
  unfold RyoG at *
  rw [moreT_ne (show (5 : Nat) ≠ 11 by omega), moreT_at]
  exact ⟨(fun e => by cases e), fun _ => h1, fun e => (h.2.2.1 e).map h0.2.1 hg, fun e => (h.2.2.2.1 e).map h0.2.1 hg, h.2.2.2.2.1.grown hg hgb, none_new h.2.2.2.2.2 hg hwb⟩
theorem RyoG.second (hgm : g ≠ m) (hmc : m ≠ c) (hmb : m ≠ b) (hwm : w.heap.size ≤ m) (h1 : RS y m r.1) (hg : x.grownBy y (some m)) (h : RyoG w c b m g s r o L x) : RyoG w c b m g s r o (Inv.moreT 11 L) y := by
  unfold RyoG at *
  rw [moreT_ne (show (11 : Nat) ≠ 5 by omega), moreT_at]
  exact ⟨fun e => (h.1 e).far hg hmc hmb, fun e => (h.2.1 e).far hg hmc hmb, (fun e => by cases e), fun _ => h1, h.2.2.2.2.1.grown hg hgm, none_new h.2.2.2.2.2 hg hwm⟩
end
theorem aggRef : AggT Try.prog 30 3 := ⟨fun _ => by kernel_rfl, by kernel_rfl⟩

set_option maxRecDepth 10000 in
set_option maxHeartbeats 4000000 in
theorem plays_in (w : World) (begin : Int) (A : Option Addr) (l : List Op12) (n cap : Nat) (hn : l.length = n) (hA : SR w w.heap.size A 21 (l.map opC) cap) (hl : ∀ o ∈ l, opW o) (hg : greatO l = false) :
    Calls Try.prog 3 #[.int .i64 begin, .slice A n cap] w fun e w' => e = .returned (.bool true) ∧ w.grownBy w' none := by
  have HN := Lib.hid hn
  have HA := Lib.hid hA
  have HL := Lib.hid hl
  have HG := Lib.hid hg
  have N0 := Lib.hid (show n ≤ 100 by rw [← hn]; exact greatO_len hg)
  clear hn hA hl hg
  go_enter Try.func3, Try.ntmps3
  go_wp2_with (first
    | (go_at_call 7; refine (speaks_any _).mono ?_; rintro e wa ⟨rfl, ga⟩; have GA := Lib.hid ga; clear ga)
    | (go_at_call 8; refine (great_any _ A l n cap w.heap.size HN.out (HA.out.made GA.out (Nat.le_refl _)) GA.out.size HL.out).mono ?_; rintro e wb ⟨rfl, gb⟩; rw [HG.out]; have GB := Lib.hid (grown_trans' GA.out gb); clear gb)
    | (go_at_call 9; refine (new_any begin _).mono ?_; rintro e w1 ⟨rfl, h1, g1⟩; have H1 := Lib.hid h1; have G1 := Lib.hid (grown_trans' GB.out g1); clear h1 g1))
  obtain ⟨c, hc⟩ : ∃ c, wb.heap.size + 1 = c := ⟨_, rfl⟩
  obtain ⟨b, hb⟩ : ∃ b, wb.heap.size = b := ⟨_, rfl⟩
  have HCE := Lib.hid (show w.heap.size ≤ c ∧ w.heap.size ≤ b by have := GB.out.size; omega)
  rw [hc, hb] at H1
  rw [hc]
  have HD1 := Lib.hid (show RS (w1.alloc (.cells #[.slice none 0 0, .bool false, .int .i64 0] 30)) w1.heap.size ⟨[], false, 0⟩ from ⟨⟨_, CB.new w1 _ [.slice none 0 0, .bool false, .int .i64 0], RowX.nil_ _ _ _ _⟩, (show I64 0 by unfold I64; omega), fun x hx => by cases hx⟩)
  have HS1 := Lib.hid (H1.out.none (grown_alloc w1 (.cells #[.slice none 0 0, .bool false, .int .i64 0] 30) none))
  have HG1 := Lib.hid (grown_trans' G1.out (grown_alloc w1 (.cells #[.slice none 0 0, .bool false, .int .i64 0] 30) none))
  have HTB := Lib.hid (show w1.heap.size ≠ b ∧ w1.heap.size ≠ c by have h1 := H1.out.1.lt; have h2 := H1.out.2.1.lt; omega)
  have HTW := Lib.hid (show w.heap.size ≤ w1.heap.size from G1.out.size)
  obtain ⟨m, hm⟩ : ∃ m, w1.heap.size = m := ⟨_, rfl⟩
  rw [hm] at HD1 HTB HTW
  rw [hm]
  clear hc hb hm
  go_loopw [21] (fun v wr => ∃ (k : Nat) (s : St), k ≤ n ∧ v = .int .i64 k ∧ CS wr c b s ∧ RS wr m s ∧ s.M.length ≤ 16 ∧ w.grownBy wr none) (fun v _ => n - (intOf v).toNat)
  case atStart => exact ⟨0, _, Nat.zero_le _, rfl, HS1.out, HD1.out, (by simp), HG1.out⟩
  case round =>
    obtain ⟨k, s, hk, rfl, hS, hD, hlen, hW⟩ := hrel
    have HS := Lib.hid hS
    have HD := Lib.hid hD
    have HW := Lib.hid hW
    have HLEN := Lib.hid hlen
    have hn0 := N0.out
    by_cases hlt : k < n
    · obtain ⟨o, ho⟩ : ∃ o, o = l[k]'(by rw [HN.out]; exact hlt) := ⟨_, rfl⟩
      obtain ⟨ab, ao, hAe, hab, hcells⟩ := HA.out.elem (k := k) (by rw [List.length_map, HN.out]; exact hlt)
      have HOW := Lib.hid (show opW o by rw [ho]; exact HL.out _ (List.getElem_mem _))
      have HMEM := Lib.hid (show o ∈ l by rw [ho]; exact List.getElem_mem _)
      have hce : (l.map opC)[k]'(by rw [List.length_map, HN.out]; exact hlt) = opC o := by rw [List.getElem_map, ho]
      rw [hce] at hcells
      have HCELL := Lib.hid (show ∀ j v, (opC o)[j]? = some v → wr.cell? ⟨ab, ao + 21 * k + j, none⟩ = some v from fun j v hj => ((below_of_none HW.out).cell (p := ⟨ab, _, none⟩) hab).trans (hcells j v hj))
      have HNC := Lib.hid (show wr.heap.size ≠ c from fun e => by have := hS.1.lt; omega)
      have HNB := Lib.hid (show wr.heap.size ≠ b from fun e => by have := hS.2.1.lt; omega)
      have HNM := Lib.hid (show wr.heap.size ≠ m from fun e => by have := hD.lt; omega)
      have HUO := Lib.hid (show auOk o.2.1 from HOW.out.au.ok (by have := greatO_au HG.out HMEM.out; omega))
      subst hAe
      clear hce hcells ho hab hS hD hlen hW
      have HB1 := Lib.hid (CB.new wr 37 zeroO)
      cases hres : o.1 with
      | true =>
        have HRES := Lib.hid hres
        clear hres
        go_wp2_with (first
          | (refine wpList_loadX (p := opC o) aggO rfl (.tmp 23) rfl (b := ab) (off := ao + 21 * k) HCELL.out (opC_len HOW.out) (by first | rfl | go_simp) ?_)
          | refine wpList_allocC zeroO_run rfl rfl ?_
          | (refine wpList_storeC (off := 0) (p := opC o) aggO.hi rfl (.tmp 8) (.tmp 24) rfl (.agg (opC o).toArray) rfl (opC_one o) HB1.out (opC_len HOW.out) (by rw [zeroO_length]; omega) (by first | rfl | go_simp) (by first | rfl | go_simp) ?_; intro w2 h2 g2; rw [over_all _ _ (Nat.le_of_eq (by rw [zeroO_length, opC_len HOW.out]))] at h2; have B2 := Lib.hid h2; have q0 := (h2.at_ (opC_res o)).trans (by rw [HRES.out]); have q20 := h2.at_ (opC_now HOW.out); have W2 := Lib.hid (none_new (grown_trans' HW.out (grown_alloc wr (.cells zeroO.toArray 37) none)) g2 HW.out.size); have S2 := Lib.hid ((HS.out.none (grown_alloc wr (.cells zeroO.toArray 37) none)).far g2 HNC.out HNB.out); have D2 := Lib.hid ((HD.out.none (grown_alloc wr (.cells zeroO.toArray 37) none)).cells HB1.out (by decide) (by decide) g2); clear h2 g2)
          | (go_at_call 10; refine (restart_any _ c b s o.2.2 S2.out HOW.out.now).mono ?_; rintro e w3 ⟨rfl, h3, wx, gx, g3⟩; have S3 := Lib.hid h3; have D3 := Lib.hid ((D2.out.map S2.out.2.1 gx).cells (S2.out.1.grown gx S2.out.2.2.1) (by decide) (by decide) g3); have W3 := Lib.hid (none_new (none_new W2.out gx HCE.out.2) g3 HCE.out.1); have q21 := ((B2.out.grown gx HNB.out).grown g3 HNC.out).at_ (opC_now HOW.out); clear h3 gx g3 q20)
          | (go_at_call 11; refine (refRestart_any _ m s o.2.2 D3.out HOW.out.now).mono ?_; rintro e w4 ⟨rfl, h4, g4⟩; have D4 := Lib.hid h4; have S4 := Lib.hid (S3.out.far g4 HTB.out.2 HTB.out.1); have W4 := Lib.hid (none_new W3.out g4 HTW.out); clear h4 g4 q21))
        obtain ⟨r, hr⟩ : ∃ r : St × Int, r = (restartOf s o.2.2, 0) := ⟨_, rfl⟩
        have HM2 := Lib.hid (show r.1.M.length ≤ 16 by rw [hr]; simp [restartOf])
        have S5 := Lib.hid (show CS w4 c b r.1 by rw [hr]; exact S4.out)
        have D5 := Lib.hid (show RS w4 m r.1 by rw [hr]; exact D4.out)
        clear hr
        obtain ⟨⟨v9, hc9, hr9⟩, _⟩ := D5.out
        obtain ⟨A9, c9, hv9, _, _⟩ := hr9.shape
        rw [List.length_map] at hv9
        obtain ⟨n9, hn9⟩ : ∃ n9, n9 = r.1.M.length := ⟨_, rfl⟩
        rw [← hn9] at hv9
        subst hv9
        have C6 := Lib.hid hc9
        have HNN := Lib.hid hn9.symm
        have S6 := Lib.hid S5.out
        have D6 := Lib.hid D5.out
        have W6 := Lib.hid W4.out
        clear hc9 hr9 hn9
        refine Inv.region_made (n := 8) (ds := [some 48, some 49, some 50, some 51, some 52, some 53, some 54, some 55]) (fun x => CS x c b r.1 ∧ CB x m 30 [.slice A9 n9 c9, .bool r.1.cl, .int .i64 r.1.beg] ∧ w4.grownBy x none) (RyoF16 r c m A9 n9 c9) (by kernel_rfl) (by kernel_rfl) rfl (by kernel_rfl) (fun _ _ hg h => ⟨h.1.none hg, h.2.1.kept hg, grown_trans' h.2.2 hg⟩) (fun j v x z _ _ h => RyoF16.kept j v x z h) ⟨S6.out, C6.out, grown_drew (World.grownBy.refl w4 none)⟩ ⟨⟨⟨⟨⟨⟨⟨⟨trivial, ?_⟩, ?_⟩, ?_⟩, ?_⟩, ?_⟩, ?_⟩, ?_⟩, ?_⟩ ?_
        · refine Inv.duty_plain rfl rfl (fun L vs a x hG dep up val ev out K hK => ?_)
          have e5 : a.eval (.tmp 5) = .pointer (some ⟨c, 0, none⟩) := (out 5 (by kernel_rfl)).trans rfl
          refine Inv.wp_value (v := .pointer (some ⟨c, 0, none⟩)) ?_ (hK.out _ _ (World.grownBy.refl x _) rfl)
          clear hK K dep up val ev out
          generalize a.eval = ρ at *
          (simp [execOp, go_sem, *]; done)
        · refine Inv.duty_plain rfl rfl (fun L vs a x hG dep up val ev out K hK => ?_)
          have ef : ∀ f, a.eval (.func f) = .func (.func f) #[] #[] := fun _ => rfl
          have L48 := dep 0 (by kernel_rfl)
          have e48 : a.eval (.tmp 48) = .pointer (some ⟨c, 0, none⟩) := (ev 0 48 L48 (by kernel_rfl)).trans (val 0 L48)
          refine Inv.wp_call (by clear hG hK K dep up val ev out; generalize a.eval = ρ at *; (simp [execOp, go_sem, *]; done)) ((len_any x c b r.1 hG.1).mono ?_)
          rintro e w' ⟨rfl, rfl⟩
          exact ⟨_, rfl, hK.out _ _ (World.grownBy.refl x _) rfl⟩
        · refine Inv.duty_plain rfl rfl (fun L vs a x hG dep up val ev out K hK => ?_)
          have e6 : a.eval (.tmp 6) = .pointer (some ⟨m, 0, none⟩) := (out 6 (by kernel_rfl)).trans rfl
          refine Inv.wp_value (v := .pointer (some ⟨m, 0, none⟩)) ?_ (hK.out _ _ (World.grownBy.refl x _) rfl)
          clear hK K dep up val ev out
          generalize a.eval = ρ at *
          (simp [execOp, go_sem, *]; done)
        · refine Inv.duty_plain rfl rfl (fun L vs a x hG dep up val ev out K hK => ?_)
          have L50 := dep 2 (by kernel_rfl)
          have e50 : a.eval (.tmp 50) = .pointer (some ⟨m, 0, none⟩) := (ev 2 50 L50 (by kernel_rfl)).trans (val 2 L50)
          refine Inv.wp_value (v := .pointer (some ⟨m, 0, none⟩)) ?_ (hK.out _ _ (World.grownBy.refl x _) rfl)
          clear hK K dep up val ev out
          generalize a.eval = ρ at *
          (simp [execOp, go_sem, *]; done)
        · refine Inv.duty_plain rfl rfl (fun L vs a x hG dep up val ev out K hK => ?_)
          have L51 := dep 3 (by kernel_rfl)
          have e51 : a.eval (.tmp 51) = .pointer (some ⟨m, 0, none⟩) := (ev 3 51 L51 (by kernel_rfl)).trans (val 3 L51)
          refine Inv.wp_value (v := .pointer (some ⟨m, 0, none⟩)) ?_ (hK.out _ _ (World.grownBy.refl x _) rfl)
          clear hK K dep up val ev out
          generalize a.eval = ρ at *
          (simp [execOp, go_sem, *]; done)
        · refine Inv.duty_plain rfl rfl (fun L vs a x hG dep up val ev out K hK => ?_)
          have L52 := dep 4 (by kernel_rfl)
          have e52 : a.eval (.tmp 52) = .pointer (some ⟨m, 0, none⟩) := (ev 4 52 L52 (by kernel_rfl)).trans (val 4 L52)
          have q0 : x.cell? ⟨m, 0, none⟩ = some (Value.slice A9 n9 c9) := hG.2.1.at_ rfl
          refine Inv.wp_value (v := .slice A9 n9 c9) ?_ (hK.out _ _ (World.grownBy.refl x _) rfl)
          clear hG hK K dep up val ev out
          generalize a.eval = ρ at *
          (simp [execOp, go_sem, *]; done)
        · refine Inv.duty_plain rfl rfl (fun L vs a x hG dep up val ev out K hK => ?_)
          have L53 := dep 5 (by kernel_rfl)
          have e53 : a.eval (.tmp 53) = .slice A9 n9 c9 := (ev 5 53 L53 (by kernel_rfl)).trans (val 5 L53)
          refine Inv.wp_value (v := .int .i64 (n9 : Int)) ?_ (hK.out _ _ (World.grownBy.refl x _) rfl)
          clear hK K dep up val ev out
          generalize a.eval = ρ at *
          (simp [execOp, go_sem, *]; done)
        · refine Inv.duty_plain rfl rfl (fun L vs a x hG dep up val ev out K hK => ?_)
          have L49 := dep 1 (by kernel_rfl)
          have e49 : a.eval (.tmp 49) = .int .i64 (r.1.M.length : Int) := (ev 1 49 L49 (by kernel_rfl)).trans (val 1 L49)
          have L54 := dep 6 (by kernel_rfl)
          have e54 : a.eval (.tmp 54) = .int .i64 (n9 : Int) := (ev 6 54 L54 (by kernel_rfl)).trans (val 6 L54)
          have hnn := HNN.out
          have hbb : ((r.1.M.length : Int) != (n9 : Int)) = false := by rw [hnn]; simp
          refine Inv.wp_value (v := .bool false) ?_ (hK.out _ _ (World.grownBy.refl x _) rfl)
          clear hG hK K dep up val ev out hnn
          generalize a.eval = ρ at *
          (simp [execOp, go_sem, *]; done)
        intro vs2 w7 hG hv
        have hZ : vs2 7 = .bool false := hv 7 (by omega)
        simp only [Inv.putAll, Act.put, List.setIfInBounds_toArray, List.set_cons_zero, List.set_cons_succ, Nat.zero_add, Nat.reduceAdd]
        rw [hZ]
        have S7 := Lib.hid (S6.out.none hG.2.2)
        have D7 := Lib.hid (D6.out.none hG.2.2)
        have W7 := Lib.hid (grown_trans' W6.out hG.2.2)
        clear hv hZ hG
        go_wp2
        go_roundw
        case rel => exact ⟨k + 1, r.1, by omega, by go_num, S7.out, D7.out, HM2.out, W7.out⟩
        case measure => simp [intOf]; omega
      | false =>
        have HRES := Lib.hid hres
        obtain ⟨r, hr⟩ : ∃ r, r = seenOf s o.2.1 o.2.2 := ⟨_, rfl⟩
        have HRE := Lib.hid hr
        have HM2 := Lib.hid (show r.1.M.length ≤ 16 by rw [hr]; exact seen_most HLEN.out)
        have hrr : (r.2 == r.2) = true := beq_self_eq_true _
        clear hr hres
        go_wp2_with (first
          | (refine wpList_loadX (p := opC o) aggO rfl (.tmp 23) rfl (b := ab) (off := ao + 21 * k) HCELL.out (opC_len HOW.out) (by first | rfl | go_simp) ?_)
          | refine wpList_allocC zeroO_run rfl rfl ?_
          | (refine wpList_storeC (off := 0) (p := opC o) aggO.hi rfl (.tmp 8) (.tmp 24) rfl (.agg (opC o).toArray) rfl (opC_one o) HB1.out (opC_len HOW.out) (by rw [zeroO_length]; omega) (by first | rfl | go_simp) (by first | rfl | go_simp) ?_; intro w2 h2 g2; rw [over_all _ _ (Nat.le_of_eq (by rw [zeroO_length, opC_len HOW.out]))] at h2; have B2 := Lib.hid h2; have q0 := (h2.at_ (opC_res o)).trans (by rw [HRES.out]); have q20 := h2.at_ (opC_now HOW.out); have W2 := Lib.hid (none_new (grown_trans' HW.out (grown_alloc wr (.cells zeroO.toArray 37) none)) g2 HW.out.size); have S2 := Lib.hid ((HS.out.none (grown_alloc wr (.cells zeroO.toArray 37) none)).far g2 HNC.out HNB.out); have D2 := Lib.hid ((HD.out.none (grown_alloc wr (.cells zeroO.toArray 37) none)).cells HB1.out (by decide) (by decide) g2); clear h2 g2))
        clear q0 q20
        refine region_byT (n := 13) (ds := [some 35, some 36, some 37, some 38, some 39, some 40, some 41, some 42, some 43, some 44, some 45, some 46, some 47]) (RyoT b m) (RyoG w c b m wr.heap.size s r o) (RyoF o r c m wr.heap.size) (by kernel_rfl) (by kernel_rfl) rfl (by kernel_rfl) (fun i j v x y _ _ _ h => RyoF.kept j v x y h) ⟨(fun _ => S2.out), (fun h => by cases h), (fun _ => D2.out), (fun h => by cases h), B2.out, grown_drew W2.out⟩ ⟨⟨⟨⟨⟨⟨⟨⟨⟨⟨⟨⟨⟨trivial, ?_⟩, ?_⟩, ?_⟩, ?_⟩, ?_⟩, ?_⟩, ?_⟩, ?_⟩, ?_⟩, ?_⟩, ?_⟩, ?_⟩, ?_⟩ ?_
        · refine Inv.dutyT_plain rfl rfl (fun L vs a x l0 hG dep up val ev out K hK => ?_)
          have e5 : a.eval (.tmp 5) = .pointer (some ⟨c, 0, none⟩) := (out 5 (Inv.ne_of_outB (by kernel_rfl))).trans rfl
          refine Inv.wp_value (v := .pointer (some ⟨c, 0, none⟩)) ?_ (hK.out _ _ rfl (RyoG.more (i := 0) (by omega) (by omega) hG) rfl)
          clear hG hK K dep up val ev out l0
          generalize a.eval = ρ at *
          (simp [execOp, go_sem, *]; done)
        · refine Inv.dutyT_plain rfl rfl (fun L vs a x l0 hG dep up val ev out K hK => ?_)
          have e8 : a.eval (.tmp 8) = .pointer (some ⟨wr.heap.size, 0, none⟩) := (out 8 (Inv.ne_of_outB (by kernel_rfl))).trans rfl
          refine Inv.wp_value (v := .pointer (some ⟨wr.heap.size, 1, none⟩)) ?_ (hK.out _ _ rfl (RyoG.more (i := 1) (by omega) (by omega) hG) rfl)
          clear hG hK K dep up val ev out l0
          generalize a.eval = ρ at *
          (simp [execOp, go_sem, *]; done)
        · refine Inv.dutyT_plain rfl rfl (fun L vs a x l0 hG dep up val ev out K hK => ?_)
          have L36 := dep 1 (by kernel_rfl)
          have e36 : a.eval (.tmp 36) = .pointer (some ⟨wr.heap.size, 1, none⟩) := (ev 1 36 L36 (by kernel_rfl)).trans (val 1 L36)
          exact wp_loadC aggA (.tmp 36) rfl hG.2.2.2.2.1 (opC_au HOW.out) (by rw [opC_len HOW.out]; omega) e36 (hK.out _ _ rfl (RyoG.more (i := 2) (by omega) (by omega) hG) rfl)
        · refine Inv.dutyT_plain rfl rfl (fun L vs a x l0 hG dep up val ev out K hK => ?_)
          have e8 : a.eval (.tmp 8) = .pointer (some ⟨wr.heap.size, 0, none⟩) := (out 8 (Inv.ne_of_outB (by kernel_rfl))).trans rfl
          refine Inv.wp_value (v := .pointer (some ⟨wr.heap.size, 20, none⟩)) ?_ (hK.out _ _ rfl (RyoG.more (i := 3) (by omega) (by omega) hG) rfl)
          clear hG hK K dep up val ev out l0
          generalize a.eval = ρ at *
          (simp [execOp, go_sem, *]; done)
        · refine Inv.dutyT_plain rfl rfl (fun L vs a x l0 hG dep up val ev out K hK => ?_)
          have L38 := dep 3 (by kernel_rfl)
          have e38 : a.eval (.tmp 38) = .pointer (some ⟨wr.heap.size, 20, none⟩) := (ev 3 38 L38 (by kernel_rfl)).trans (val 3 L38)
          have q20 := hG.2.2.2.2.1.at_ (opC_now HOW.out)
          refine Inv.wp_value (v := .int .i64 o.2.2) ?_ (hK.out _ _ rfl (RyoG.more (i := 4) (by omega) (by omega) hG) rfl)
          clear hG hK K dep up val ev out l0
          generalize a.eval = ρ at *
          (simp [execOp, go_sem, *]; done)
        · refine Inv.dutyT_plain rfl rfl (fun L vs a x l0 hG dep up val ev out K hK => ?_)
          have ef : ∀ f, a.eval (.func f) = .func (.func f) #[] #[] := fun _ => rfl
          have L35 := dep 0 (by kernel_rfl)
          have e35 : a.eval (.tmp 35) = .pointer (some ⟨c, 0, none⟩) := (ev 0 35 L35 (by kernel_rfl)).trans (val 0 L35)
          have L37 := dep 2 (by kernel_rfl)
          have e37 : a.eval (.tmp 37) = .agg (auC o.2.1).toArray := (ev 2 37 L37 (by kernel_rfl)).trans (val 2 L37)
          have L39 := dep 4 (by kernel_rfl)
          have e39 : a.eval (.tmp 39) = .int .i64 o.2.2 := (ev 4 39 L39 (by kernel_rfl)).trans (val 4 L39)
          refine Inv.wp_call (by clear hG hK K dep up val ev out l0; generalize a.eval = ρ at *; (simp [execOp, go_sem, *]; done)) ((seen_any x c b s o.2.1 o.2.2 (hG.1 l0) HUO.out HOW.out.now (by have := HLEN.out; omega)).mono ?_)
          intro e w' h
          rw [← HRE.out] at h
          obtain ⟨rfl, h3, g3⟩ := h
          exact ⟨_, rfl, hK.out _ _ g3 (RyoG.first HNB.out HCE.out.2 (hG.1 l0) h3 g3 hG) rfl⟩
        · refine Inv.dutyT_plain rfl rfl (fun L vs a x l0 hG dep up val ev out K hK => ?_)
          have e6 : a.eval (.tmp 6) = .pointer (some ⟨m, 0, none⟩) := (out 6 (Inv.ne_of_outB (by kernel_rfl))).trans rfl
          refine Inv.wp_value (v := .pointer (some ⟨m, 0, none⟩)) ?_ (hK.out _ _ rfl (RyoG.more (i := 6) (by omega) (by omega) hG) rfl)
          clear hG hK K dep up val ev out l0
          generalize a.eval = ρ at *
          (simp [execOp, go_sem, *]; done)
        · refine Inv.dutyT_plain rfl rfl (fun L vs a x l0 hG dep up val ev out K hK => ?_)
          have e8 : a.eval (.tmp 8) = .pointer (some ⟨wr.heap.size, 0, none⟩) := (out 8 (Inv.ne_of_outB (by kernel_rfl))).trans rfl
          refine Inv.wp_value (v := .pointer (some ⟨wr.heap.size, 1, none⟩)) ?_ (hK.out _ _ rfl (RyoG.more (i := 7) (by omega) (by omega) hG) rfl)
          clear hG hK K dep up val ev out l0
          generalize a.eval = ρ at *
          (simp [execOp, go_sem, *]; done)
        · refine Inv.dutyT_plain rfl rfl (fun L vs a x l0 hG dep up val ev out K hK => ?_)
          have L42 := dep 7 (by kernel_rfl)
          have e42 : a.eval (.tmp 42) = .pointer (some ⟨wr.heap.size, 1, none⟩) := (ev 7 42 L42 (by kernel_rfl)).trans (val 7 L42)
          exact wp_loadC aggA (.tmp 42) rfl hG.2.2.2.2.1 (opC_au HOW.out) (by rw [opC_len HOW.out]; omega) e42 (hK.out _ _ rfl (RyoG.more (i := 8) (by omega) (by omega) hG) rfl)
        · refine Inv.dutyT_plain rfl rfl (fun L vs a x l0 hG dep up val ev out K hK => ?_)
          have e8 : a.eval (.tmp 8) = .pointer (some ⟨wr.heap.size, 0, none⟩) := (out 8 (Inv.ne_of_outB (by kernel_rfl))).trans rfl
          refine Inv.wp_value (v := .pointer (some ⟨wr.heap.size, 20, none⟩)) ?_ (hK.out _ _ rfl (RyoG.more (i := 9) (by omega) (by omega) hG) rfl)
          clear hG hK K dep up val ev out l0
          generalize a.eval = ρ at *
          (simp [execOp, go_sem, *]; done)
        · refine Inv.dutyT_plain rfl rfl (fun L vs a x l0 hG dep up val ev out K hK => ?_)
          have L44 := dep 9 (by kernel_rfl)
          have e44 : a.eval (.tmp 44) = .pointer (some ⟨wr.heap.size, 20, none⟩) := (ev 9 44 L44 (by kernel_rfl)).trans (val 9 L44)
          have q20 := hG.2.2.2.2.1.at_ (opC_now HOW.out)
          refine Inv.wp_value (v := .int .i64 o.2.2) ?_ (hK.out _ _ rfl (RyoG.more (i := 10) (by omega) (by omega) hG) rfl)
          clear hG hK K dep up val ev out l0
          generalize a.eval = ρ at *
          (simp [execOp, go_sem, *]; done)
        · refine Inv.dutyT_plain rfl rfl (fun L vs a x l0 hG dep up val ev out K hK => ?_)
          have ef : ∀ f, a.eval (.func f) = .func (.func f) #[] #[] := fun _ => rfl
          have L41 := dep 6 (by kernel_rfl)
          have e41 : a.eval (.tmp 41) = .pointer (some ⟨m, 0, none⟩) := (ev 6 41 L41 (by kernel_rfl)).trans (val 6 L41)
          have L43 := dep 8 (by kernel_rfl)
          have e43 : a.eval (.tmp 43) = .agg (auC o.2.1).toArray := (ev 8 43 L43 (by kernel_rfl)).trans (val 8 L43)
          have L45 := dep 10 (by kernel_rfl)
          have e45 : a.eval (.tmp 45) = .int .i64 o.2.2 := (ev 10 45 L45 (by kernel_rfl)).trans (val 10 L45)
          refine Inv.wp_call (by clear hG hK K dep up val ev out l0; generalize a.eval = ρ at *; (simp [execOp, go_sem, *]; done)) ((refSeen_any x m s o.2.1 o.2.2 (hG.2.2.1 l0) HUO.out HOW.out.now (by have := HLEN.out; omega)).mono ?_)
          intro e w' h
          rw [← HRE.out] at h
          obtain ⟨rfl, h3, g3⟩ := h
          exact ⟨_, rfl, hK.out _ _ g3 (RyoG.second HNM.out HTB.out.2 HTB.out.1 HTW.out h3 g3 hG) rfl⟩
        · refine Inv.dutyT_plain rfl rfl (fun L vs a x l0 hG dep up val ev out K hK => ?_)
          have L40 := dep 5 (by kernel_rfl)
          have e40 : a.eval (.tmp 40) = .int .i64 r.2 := (ev 5 40 L40 (by kernel_rfl)).trans (val 5 L40)
          have L46 := dep 11 (by kernel_rfl)
          have e46 : a.eval (.tmp 46) = .int .i64 r.2 := (ev 11 46 L46 (by kernel_rfl)).trans (val 11 L46)
          refine Inv.wp_value (v := .bool false) ?_ (hK.out _ _ rfl (RyoG.more (i := 12) (by omega) (by omega) hG) rfl)
          clear hG hK K dep up val ev out l0
          generalize a.eval = ρ at *
          (simp [execOp, go_sem, *]; done)
        intro vs L w6 hL hG hv
        have hZ : vs 12 = .bool false := hv 12 (by omega)
        simp only [Inv.putAll, Act.put, List.setIfInBounds_toArray, List.set_cons_zero, List.set_cons_succ, Nat.zero_add, Nat.reduceAdd]
        rw [hZ]
        have S6 := Lib.hid (hG.2.1 (hL 5 (by omega)))
        have D6 := Lib.hid (hG.2.2.2.1 (hL 11 (by omega)))
        have W6 := Lib.hid hG.2.2.2.2.2
        clear hv hZ hG hL
        obtain ⟨⟨v9, hc9, hr9⟩, _⟩ := D6.out
        obtain ⟨A9, c9, hv9, _, _⟩ := hr9.shape
        rw [List.length_map] at hv9
        obtain ⟨n9, hn9⟩ : ∃ n9, n9 = r.1.M.length := ⟨_, rfl⟩
        rw [← hn9] at hv9
        subst hv9
        have C6 := Lib.hid hc9
        have HNN := Lib.hid hn9.symm
        clear hc9 hr9 hn9
        go_wp2
        refine Inv.region_made (n := 8) (ds := [some 48, some 49, some 50, some 51, some 52, some 53, some 54, some 55]) (fun x => CS x c b r.1 ∧ CB x m 30 [.slice A9 n9 c9, .bool r.1.cl, .int .i64 r.1.beg] ∧ w6.grownBy x none) (RyoF16 r c m A9 n9 c9) (by kernel_rfl) (by kernel_rfl) rfl (by kernel_rfl) (fun _ _ hg h => ⟨h.1.none hg, h.2.1.kept hg, grown_trans' h.2.2 hg⟩) (fun j v x z _ _ h => RyoF16.kept j v x z h) ⟨S6.out, C6.out, grown_drew (World.grownBy.refl w6 none)⟩ ⟨⟨⟨⟨⟨⟨⟨⟨trivial, ?_⟩, ?_⟩, ?_⟩, ?_⟩, ?_⟩, ?_⟩, ?_⟩, ?_⟩ ?_
        · refine Inv.duty_plain rfl rfl (fun L vs a x hG dep up val ev out K hK => ?_)
          have e5 : a.eval (.tmp 5) = .pointer (some ⟨c, 0, none⟩) := (out 5 (by kernel_rfl)).trans rfl
          refine Inv.wp_value (v := .pointer (some ⟨c, 0, none⟩)) ?_ (hK.out _ _ (World.grownBy.refl x _) rfl)
          clear hK K dep up val ev out
          generalize a.eval = ρ at *
          (simp [execOp, go_sem, *]; done)
        · refine Inv.duty_plain rfl rfl (fun L vs a x hG dep up val ev out K hK => ?_)
          have ef : ∀ f, a.eval (.func f) = .func (.func f) #[] #[] := fun _ => rfl
          have L48 := dep 0 (by kernel_rfl)
          have e48 : a.eval (.tmp 48) = .pointer (some ⟨c, 0, none⟩) := (ev 0 48 L48 (by kernel_rfl)).trans (val 0 L48)
          refine Inv.wp_call (by clear hG hK K dep up val ev out; generalize a.eval = ρ at *; (simp [execOp, go_sem, *]; done)) ((len_any x c b r.1 hG.1).mono ?_)
          rintro e w' ⟨rfl, rfl⟩
          exact ⟨_, rfl, hK.out _ _ (World.grownBy.refl x _) rfl⟩
        · refine Inv.duty_plain rfl rfl (fun L vs a x hG dep up val ev out K hK => ?_)
          have e6 : a.eval (.tmp 6) = .pointer (some ⟨m, 0, none⟩) := (out 6 (by kernel_rfl)).trans rfl
          refine Inv.wp_value (v := .pointer (some ⟨m, 0, none⟩)) ?_ (hK.out _ _ (World.grownBy.refl x _) rfl)
          clear hK K dep up val ev out
          generalize a.eval = ρ at *
          (simp [execOp, go_sem, *]; done)
        · refine Inv.duty_plain rfl rfl (fun L vs a x hG dep up val ev out K hK => ?_)
          have L50 := dep 2 (by kernel_rfl)
          have e50 : a.eval (.tmp 50) = .pointer (some ⟨m, 0, none⟩) := (ev 2 50 L50 (by kernel_rfl)).trans (val 2 L50)
          refine Inv.wp_value (v := .pointer (some ⟨m, 0, none⟩)) ?_ (hK.out _ _ (World.grownBy.refl x _) rfl)
          clear hK K dep up val ev out
          generalize a.eval = ρ at *
          (simp [execOp, go_sem, *]; done)
        · refine Inv.duty_plain rfl rfl (fun L vs a x hG dep up val ev out K hK => ?_)
          have L51 := dep 3 (by kernel_rfl)
          have e51 : a.eval (.tmp 51) = .pointer (some ⟨m, 0, none⟩) := (ev 3 51 L51 (by kernel_rfl)).trans (val 3 L51)
          refine Inv.wp_value (v := .pointer (some ⟨m, 0, none⟩)) ?_ (hK.out _ _ (World.grownBy.refl x _) rfl)
          clear hK K dep up val ev out
          generalize a.eval = ρ at *
          (simp [execOp, go_sem, *]; done)
        · refine Inv.duty_plain rfl rfl (fun L vs a x hG dep up val ev out K hK => ?_)
          have L52 := dep 4 (by kernel_rfl)
          have e52 : a.eval (.tmp 52) = .pointer (some ⟨m, 0, none⟩) := (ev 4 52 L52 (by kernel_rfl)).trans (val 4 L52)
          have q0 : x.cell? ⟨m, 0, none⟩ = some (Value.slice A9 n9 c9) := hG.2.1.at_ rfl
          refine Inv.wp_value (v := .slice A9 n9 c9) ?_ (hK.out _ _ (World.grownBy.refl x _) rfl)
          clear hG hK K dep up val ev out
          generalize a.eval = ρ at *
          (simp [execOp, go_sem, *]; done)
        · refine Inv.duty_plain rfl rfl (fun L vs a x hG dep up val ev out K hK => ?_)
          have L53 := dep 5 (by kernel_rfl)
          have e53 : a.eval (.tmp 53) = .slice A9 n9 c9 := (ev 5 53 L53 (by kernel_rfl)).trans (val 5 L53)
          refine Inv.wp_value (v := .int .i64 (n9 : Int)) ?_ (hK.out _ _ (World.grownBy.refl x _) rfl)
          clear hK K dep up val ev out
          generalize a.eval = ρ at *
          (simp [execOp, go_sem, *]; done)
        · refine Inv.duty_plain rfl rfl (fun L vs a x hG dep up val ev out K hK => ?_)
          have L49 := dep 1 (by kernel_rfl)
          have e49 : a.eval (.tmp 49) = .int .i64 (r.1.M.length : Int) := (ev 1 49 L49 (by kernel_rfl)).trans (val 1 L49)
          have L54 := dep 6 (by kernel_rfl)
          have e54 : a.eval (.tmp 54) = .int .i64 (n9 : Int) := (ev 6 54 L54 (by kernel_rfl)).trans (val 6 L54)
          have hnn := HNN.out
          have hbb : ((r.1.M.length : Int) != (n9 : Int)) = false := by rw [hnn]; simp
          refine Inv.wp_value (v := .bool false) ?_ (hK.out _ _ (World.grownBy.refl x _) rfl)
          clear hG hK K dep up val ev out hnn
          generalize a.eval = ρ at *
          (simp [execOp, go_sem, *]; done)
        intro vs2 w7 hG hv
        have hZ : vs2 7 = .bool false := hv 7 (by omega)
        simp only [Inv.putAll, Act.put, List.setIfInBounds_toArray, List.set_cons_zero, List.set_cons_succ, Nat.zero_add, Nat.reduceAdd]
        rw [hZ]
        have S7 := Lib.hid (S6.out.none hG.2.2)
        have D7 := Lib.hid (D6.out.none hG.2.2)
        have W7 := Lib.hid (grown_trans' W6.out hG.2.2)
        clear hv hZ hG
        go_wp2
        go_roundw
        case rel => exact ⟨k + 1, r.1, by omega, by go_num, S7.out, D7.out, HM2.out, W7.out⟩
        case measure => simp [intOf]; omega
    · go_wp2
      go_ret
      exact ⟨rfl, HW.out⟩

theorem plays_out (w : World) (begin : Int) (A : Option Addr) (l : List Op12) (n cap : Nat) (hn : l.length = n) (hA : SR w w.heap.size A 21 (l.map opC) cap) (hl : ∀ o ∈ l, opW o) (hg : greatO l = true) :
    Calls Try.prog 3 #[.int .i64 begin, .slice A n cap] w fun e w' => e = .returned (.bool true) ∧ w.grownBy w' none := by
  have HN := Lib.hid hn
  have HA := Lib.hid hA
  have HL := Lib.hid hl
  have HG := Lib.hid hg
  clear hn hA hl hg
  go_enter Try.func3, Try.ntmps3
  go_wp2_with (first
    | (go_at_call 7; refine (speaks_any _).mono ?_; rintro e wa ⟨rfl, ga⟩; have GA := Lib.hid ga; clear ga)
    | (go_at_call 8; refine (great_any _ A l n cap w.heap.size HN.out (HA.out.made GA.out (Nat.le_refl _)) GA.out.size HL.out).mono ?_; rintro e wb ⟨rfl, gb⟩; rw [HG.out]; have GB := Lib.hid (grown_trans' GA.out gb); clear gb))
  go_ret
  exact ⟨rfl, GB.out⟩
theorem walk_ReplayPlays (w : World) (begin : Int) (_ : (Lit.int .i64 begin).wf = true) (A : Option Addr) (l : List Op12) (cap : Nat) (hA : SR w w.heap.size A 21 (l.map opC) cap) (hl : ∀ o ∈ l, opW o) :
    Calls Try.prog 3 #[.int .i64 begin, .slice A l.length cap] w fun e w' => e = .returned (.bool true) ∧ Below w.heap.size w w' := by
  cases hg : greatO l with
  | true => exact (plays_out w begin A l l.length cap rfl hA hl hg).mono fun _ _ ⟨he, hg⟩ => ⟨he, below_of_none hg⟩
  | false => exact (plays_in w begin A l l.length cap rfl hA hl hg).mono fun _ _ ⟨he, hg⟩ => ⟨he, below_of_none hg⟩
end Go.Proofs.Ytgamlioahdbikaa
