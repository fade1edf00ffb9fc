/- The walks of replay's forget, Restart and Seen. -/
import Derived.Test.YtgamlioahdbikaaRyc
namespace Go.Proofs.Ytgamlioahdbikaa
open Go.RowKit Go.Maps

theorem forget_any (w : World) (c b : Nat) (s : St) (now : Int) (h : CS w c b s) (hn : I64 now) :
    Calls Try.prog 17 #[.pointer (some ⟨c, 0, none⟩), .int .i64 now] w fun e w' => e = .returned (.tuple #[]) ∧ CS w' c b ⟨keepA now s.M, s.cl, s.beg⟩ ∧ w.grownBy w' (some b) := by
  have q0 : (w.alloc (.cells #[.int .i64 now] 2)).cell? ⟨c, 0, none⟩ = some (.map (some b)) := cell_alloc (h.1.at_ rfl) _
  have HS := Lib.hid (h.none (grown_alloc w (.cells #[.int .i64 now] 2) none))
  have HG := Lib.hid (grown_alloc w (.cells #[.int .i64 now] 2) (some b))
  have HN := Lib.hid (show (w.alloc (.cells #[.int .i64 now] 2)).cell? ⟨w.heap.size, 0, none⟩ = some (.int .i64 now) from (CB.new w 2 [.int .i64 now]).at_ rfl)
  have HB := Lib.hid (show w.heap.size ≠ b from fun e => by have := h.2.1.lt; omega)
  have HI := Lib.hid hn
  clear h hn
  go_enter Try.func17, Try.ntmps17
  go_wp2_with (go_at_call 20; refine (delFunc_any b w.heap.size s.M now _ HS.out.2.1 HS.out.2.2.2.2 HI.out HN.out HB.out).mono ?_; rintro e w2 ⟨rfl, hM2, hg2⟩)
  go_end0
  exact ⟨rfl, ⟨HS.out.1.grown hg2 HS.out.2.2.1, hM2, HS.out.2.2.1, HS.out.2.2.2.1, fun a ha => HS.out.2.2.2.2 a (keepA_sub ha)⟩, grown_trans' HG.out hg2⟩

theorem size1 : (Try.prog.info? 2).map (·.size) = some 1 := by kernel_rfl
theorem sizeB : (Try.prog.info? 4).map (·.size) = some 1 := by kernel_rfl
theorem sizeS : (Try.prog.info? 9).map (·.size) = some 1 := by kernel_rfl

theorem restart_any (w : World) (c b : Nat) (s : St) (now : Int) (h : CS w c b s) (hn : I64 now) :
    Calls Try.prog 10 #[.pointer (some ⟨c, 0, none⟩), .int .i64 now] w fun e w' => e = .returned (.tuple #[]) ∧ CS w' c b (restartOf s now) ∧ ∃ w1, w.grownBy w1 (some b) ∧ w1.grownBy w' (some c) := by
  obtain ⟨M, cl, beg⟩ := s
  have q0 : w.cell? ⟨c, 0, none⟩ = some (.map (some b)) := h.1.at_ rfl
  have HS := Lib.hid h
  have HI := Lib.hid hn
  have HL := Lib.hid (fun (w1 : World) (hg : w.grownBy w1 (some b)) => (HS.out.1.grown hg HS.out.2.2.1 : CB w1 c 49 [.map (some b), .bool cl, .int .i64 beg]))
  clear h hn
  by_cases hc : cl = false ∨ beg < now
  · have HE := Lib.hid (show restartOf ⟨M, cl, beg⟩ now = ⟨[], true, now⟩ by unfold restartOf; rw [if_pos hc])
    rw [HE.out]
    have hcase : cl = false ∨ (cl = true ∧ decide (beg < now) = true) := by
      cases cl with
      | false => exact .inl rfl
      | true => exact .inr ⟨rfl, decide_eq_true (hc.resolve_left (by simp))⟩
    clear hc
    go_enter Try.func10, Try.ntmps10
    rcases hcase with rfl | ⟨rfl, d1⟩
    all_goals
      go_wp2_with (first
        | (refine wpList_clearM rfl _ rfl Try.underlying47 HS.out.2.1 rfl ?_; intro w1 hM1 hT1; have G1 := Lib.hid hT1.grown; have B1 := Lib.hid (HL.out w1 hT1.grown); have M1 := Lib.hid hM1; have p1 := B1.out.at_ (i := 1) rfl; have p2 := B1.out.at_ (i := 2) rfl; clear hM1 hT1)
        | (refine wpList_storeC (off := 2) (p := [.int .i64 now]) size1 rfl (.tmp 24) (.tmp 22) rfl (.int .i64 now) rfl (fun u hu => by rw [List.mem_singleton.1 hu]; rfl) B1.out rfl (by simp) (by first | rfl | go_simp) (by first | rfl | go_simp) ?_; intro w2 h2 g2; have B2 := Lib.hid h2; have G2 := Lib.hid g2; clear p1 p2 h2 g2)
        | (refine wpList_storeC (off := 1) (p := [.bool true]) sizeB rfl (.tmp 27) (.const (.bool true)) rfl (.bool true) rfl (fun u hu => by rw [List.mem_singleton.1 hu]; rfl) B2.out rfl (by simp [over]) (by first | rfl | go_simp) (by first | rfl | go_simp) ?_; intro w3 h3 g3))
      go_end0
      exact ⟨rfl, ⟨h3, (M1.out.kept G2.out (fun e => HS.out.2.2.1 (by injection e with e; exact e.symm))).kept g3 (fun e => HS.out.2.2.1 (by injection e with e; exact e.symm)), HS.out.2.2.1, HI.out, fun a ha => by cases ha⟩, w1, G1.out, grown_trans' G2.out g3⟩
  · have hcl : cl = true := by cases cl with
      | true => rfl
      | false => exact absurd (Or.inl rfl) hc
    subst hcl
    have d1 : decide (beg < now) = false := decide_eq_false (fun h => hc (Or.inr h))
    have HE := Lib.hid (show restartOf ⟨M, true, beg⟩ now = ⟨[], true, beg⟩ by unfold restartOf; rw [if_neg hc])
    rw [HE.out]
    clear hc
    go_enter Try.func10, Try.ntmps10
    go_wp2_with (first
      | (refine wpList_clearM rfl _ rfl Try.underlying47 HS.out.2.1 rfl ?_; intro w1 hM1 hT1; have G1 := Lib.hid hT1.grown; have B1 := Lib.hid (HL.out w1 hT1.grown); have M1 := Lib.hid hM1; have p1 := B1.out.at_ (i := 1) rfl; have p2 := B1.out.at_ (i := 2) rfl; clear hM1 hT1)
      | (refine wpList_storeC (off := 1) (p := [.bool true]) sizeB rfl (.tmp 27) (.const (.bool true)) rfl (.bool true) rfl (fun u hu => by rw [List.mem_singleton.1 hu]; rfl) B1.out rfl (by simp) (by first | rfl | go_simp) (by first | rfl | go_simp) ?_; intro w3 h3 g3))
    go_end0
    exact ⟨rfl, ⟨h3, M1.out.kept g3 (fun e => HS.out.2.2.1 (by injection e with e; exact e.symm)), HS.out.2.2.1, HS.out.2.2.2.1, fun a ha => by cases ha⟩, w1, G1.out, g3⟩

def RySF (c b : Nat) (u : Au) (B : Bool) : Nat → Value → World → Prop
  | 0, v, _ => v = .pointer (some ⟨c, 0, none⟩)
  | 1, v, _ => v = .pointer (some ⟨c, 0, none⟩)
  | 2, v, _ => v = .pointer (some ⟨c, 0, none⟩)
  | 3, v, _ => v = .map (some b)
  | 4, v, _ => v = .agg (auC u).toArray
  | 5, v, _ => v = .tuple #[.agg #[], .bool B]
  | 6, v, _ => v = .tuple #[.agg #[], .bool B]
  | 7, v, _ => v = .agg #[]
  | 8, v, _ => v = .bool B
  | 9, v, x => ∃ g, v = .pointer (some ⟨g, 0, none⟩) ∧ CB x g 52 []
  | 10, _, _ => True
  | 11, v, _ => v = .bool B
  | _, _, _ => True
theorem RySF.kept {c b : Nat} {u : Au} {B : Bool} : ∀ (j : Nat) (v : Value) (x y : World), x.grownBy y none → RySF c b u B j v x → RySF c b u B j v y
  | 0, _, _, _, _, h => h
  | 1, _, _, _, _, h => h
  | 2, _, _, _, _, h => h
  | 3, _, _, _, _, h => h
  | 4, _, _, _, _, h => h
  | 5, _, _, _, _, h => h
  | 6, _, _, _, _, h => h
  | 7, _, _, _, _, h => h
  | 8, _, _, _, _, h => h
  | 9, _, _, _, hg, ⟨g, h1, h2⟩ => ⟨g, h1, h2.kept hg⟩
  | 10, _, _, _, _, h => h
  | 11, _, _, _, _, h => h
  | _ + 12, _, _, _, _, _ => by simp [RySF]

/-- What Seen leaves. -/
def SeenR (w : World) (c b : Nat) (r : St × Int) (e : Ending) (w' : World) : Prop := e = .returned (.int .i64 r.2) ∧ CS w' c b r.1 ∧ w.grownBy w' (some b)

set_option maxRecDepth 10000 in
set_option maxHeartbeats 1000000 in
theorem seen_far (w : World) (c b : Nat) (s : St) (u : Au) (now : Int) (h : CS w c b s) (hu : auOk u) (hn : I64 now) (hf : far u.2.1 now = true ∨ far now u.2.1 = true) :
    Calls Try.prog 12 #[.pointer (some ⟨c, 0, none⟩), .agg (auC u).toArray, .int .i64 now] w (SeenR w c b (s, 65)) := by
  have q1 := (CB.new w 35 (auC u)).at_ (auC_ti u)
  have IU := Lib.hid hu.ti
  have IN := Lib.hid hn
  have HG := Lib.hid (grown_alloc w (.cells (auC u).toArray 35) (some b))
  have HS := Lib.hid (h.none (grown_alloc w (.cells (auC u).toArray 35) none))
  clear h hu hn
  cases hf1 : far u.2.1 now with
  | true =>
    have H1 := Lib.hid hf1
    clear hf hf1
    go_enter Try.func12, Try.ntmps12
    go_wp2_with (go_at_call 15; refine (farAbove_any u.2.1 now _ IU.out IN.out).mono ?_; rintro e w1 ⟨rfl, rfl⟩; rw [H1.out])
    go_ret
    exact ⟨rfl, HS.out, HG.out⟩
  | false =>
    have H1 := Lib.hid hf1
    have H2 := Lib.hid (hf.resolve_left (by rw [hf1]; simp))
    have TK0 := Lib.hid True.intro
    clear hf hf1
    go_enter Try.func12, Try.ntmps12
    go_wp2_with (first
      | (go_at_call 15; have hx := TK0; clear hx; refine (farAbove_any u.2.1 now _ IU.out IN.out).mono ?_; rintro e w1 ⟨rfl, rfl⟩; rw [H1.out]; clear TK0)
      | (go_at_call 15; refine (farAbove_any now u.2.1 _ IN.out IU.out).mono ?_; rintro e w1 ⟨rfl, rfl⟩; rw [H2.out]))
    go_ret
    exact ⟨rfl, HS.out, HG.out⟩

set_option maxRecDepth 10000 in
set_option maxHeartbeats 1000000 in
theorem seen_shut (w : World) (c b : Nat) (s : St) (u : Au) (now : Int) (h : CS w c b s) (hu : auOk u) (hn : I64 now) (hf1 : far u.2.1 now = false) (hf2 : far now u.2.1 = false) (hc : (s.cl && !far u.2.1 s.beg) = true) :
    Calls Try.prog 12 #[.pointer (some ⟨c, 0, none⟩), .agg (auC u).toArray, .int .i64 now] w (SeenR w c b (s, 68)) := by
  have q1 := (CB.new w 35 (auC u)).at_ (auC_ti u)
  have IU := Lib.hid hu.ti
  have IN := Lib.hid hn
  have HG := Lib.hid (grown_alloc w (.cells (auC u).toArray 35) (some b))
  have HS := Lib.hid (h.none (grown_alloc w (.cells (auC u).toArray 35) none))
  have H1 := Lib.hid hf1
  have H2 := Lib.hid hf2
  have H3 := Lib.hid hc
  have TK0 := Lib.hid True.intro
  clear h hu hn hf1 hf2 hc
  go_enter Try.func12, Try.ntmps12
  go_wp2_with (first
    | (go_at_call 15; have hx := TK0; clear hx; refine (farAbove_any u.2.1 now _ IU.out IN.out).mono ?_; rintro e w1 ⟨rfl, rfl⟩; rw [H1.out]; clear TK0)
    | (go_at_call 15; refine (farAbove_any now u.2.1 _ IN.out IU.out).mono ?_; rintro e w1 ⟨rfl, rfl⟩; rw [H2.out])
    | (go_at_call 16; refine (isClosed_any _ c b s u.2.1 HS.out IU.out).mono ?_; rintro e w1 ⟨rfl, rfl⟩; rw [H3.out]))
  go_ret
  exact ⟨rfl, HS.out, HG.out⟩

set_option maxRecDepth 10000 in
set_option maxHeartbeats 1000000 in
theorem seen_open (w : World) (c b : Nat) (s : St) (u : Au) (now : Int) (h : CS w c b s) (hu : auOk u) (hn : I64 now) (hf1 : far u.2.1 now = false) (hf2 : far now u.2.1 = false) (hc : (s.cl && !far u.2.1 s.beg) = false) (hlen : s.M.length ≤ 1000000) :
    Calls Try.prog 12 #[.pointer (some ⟨c, 0, none⟩), .agg (auC u).toArray, .int .i64 now] w (SeenR w c b
      (if u ∈ keepA now s.M then (⟨keepA now s.M, s.cl, s.beg⟩, 66) else if 16 ≤ (keepA now s.M).length then (⟨keepA now s.M, s.cl, s.beg⟩, 2) else (⟨keepA now s.M ++ [u], s.cl, s.beg⟩, 0))) := by
  have q1 := (CB.new w 35 (auC u)).at_ (auC_ti u)
  have IU := Lib.hid hu.ti
  have IN := Lib.hid hn
  have HOA := Lib.hid hu
  have HG := Lib.hid (grown_alloc w (.cells (auC u).toArray 35) (some b))
  have HS := Lib.hid (h.none (grown_alloc w (.cells (auC u).toArray 35) none))
  have HB0 := Lib.hid (CB.new w 35 (auC u))
  have HBW := Lib.hid (show b < w.heap.size from h.2.1.lt)
  have H1 := Lib.hid hf1
  have H2 := Lib.hid hf2
  have H3 := Lib.hid hc
  have HNC := Lib.hid (show w.heap.size ≠ c from fun e => by have := h.1.lt; omega)
  have HNB := Lib.hid (show w.heap.size ≠ b from fun e => by have := h.2.1.lt; omega)
  have HWN := Lib.hid (Nat.le_refl w.heap.size)
  have HLN := Lib.hid (show (keepA now s.M).length ≤ 1000000 from Nat.le_trans (List.length_filter_le _ _) hlen)
  have TK0 := Lib.hid True.intro
  obtain ⟨s1, hs1⟩ : ∃ s1 : St, s1 = ⟨keepA now s.M, s.cl, s.beg⟩ := ⟨_, rfl⟩
  have HS1E := Lib.hid hs1
  obtain ⟨r, hr⟩ : ∃ r : St × Int, r = (if u ∈ keepA now s.M then (⟨keepA now s.M, s.cl, s.beg⟩, 66) else if 16 ≤ (keepA now s.M).length then (⟨keepA now s.M, s.cl, s.beg⟩, 2) else (⟨keepA now s.M ++ [u], s.cl, s.beg⟩, 0)) := ⟨_, rfl⟩
  rw [← hr]
  have HR := Lib.hid hr
  clear h hu hn hf1 hf2 hc hs1 hlen hr
  go_enter Try.func12, Try.ntmps12
  go_wp2_with (first
    | (go_at_call 15; have hx := TK0; clear hx; refine (farAbove_any u.2.1 now _ IU.out IN.out).mono ?_; rintro e w1 ⟨rfl, rfl⟩; rw [H1.out]; clear TK0)
    | (go_at_call 15; refine (farAbove_any now u.2.1 _ IN.out IU.out).mono ?_; rintro e w1 ⟨rfl, rfl⟩; rw [H2.out])
    | (go_at_call 16; refine (isClosed_any _ c b s u.2.1 HS.out IU.out).mono ?_; rintro e w1 ⟨rfl, rfl⟩; rw [H3.out])
    | (go_at_call 17; refine (forget_any _ c b s now HS.out IN.out).mono ?_; rintro e w1 ⟨rfl, h1, g1⟩; rw [← HS1E.out] at h1; have HS1 := Lib.hid h1; have G1 := Lib.hid (grown_trans' HG.out g1); have B1 := Lib.hid (HB0.out.grown g1 (by have := HBW.out; omega)); clear h1 g1))
  clear q1
  have e1 : s1.M = keepA now s.M := by rw [HS1E.out]
  have E1 := Lib.hid e1
  have HLS := Lib.hid (show s1.M.length ≤ 1000000 by rw [e1]; exact HLN.out)
  have HGW := Lib.hid (show w.heap.size ≤ w.heap.size from Nat.le_refl _)
  have hr := HR.out
  rw [← HS1E.out, ← e1] at hr
  clear e1 HR
  by_cases hin : u ∈ s1.M
  · rw [if_pos hin] at hr
    have HR := Lib.hid hr
    clear hr
    obtain ⟨B, hB⟩ : ∃ B : Bool, B = true := ⟨_, rfl⟩
    have HBB := Lib.hid (show B = true ↔ u ∈ keysM (setM s1.M) by rw [keys_setM, hB]; exact ⟨fun _ => hin, fun _ => rfl⟩)
    have HBE := Lib.hid hB
    have HGS := Lib.hid (show ∃ g : Nat, g = w.heap.size from ⟨_, rfl⟩)
    clear hin hB
    generalize hg4 : w.heap.size = g4 at *
    have HG4 := Lib.hid hg4
    clear hg4
    refine Inv.region_made (n := 12) (ds := [some 29, some 30, some 31, some 32, some 33, some 34, some 28, some 35, some 36, some 7, none, some 8]) (fun x => CS x c b s1 ∧ CB x g4 35 (auC u) ∧ w1.grownBy x none) (RySF c b u B) (by kernel_rfl) (by kernel_rfl) rfl (by kernel_rfl) (fun _ _ hg h => ⟨h.1.none hg, h.2.1.kept hg, grown_trans' h.2.2 hg⟩) (fun j v x y hg _ h => RySF.kept j v x y hg h) ⟨HS1.out, B1.out, grown_drew (World.grownBy.refl w1 none)⟩ ⟨⟨⟨⟨⟨⟨⟨⟨⟨⟨⟨⟨trivial, ?_⟩, ?_⟩, ?_⟩, ?_⟩, ?_⟩, ?_⟩, ?_⟩, ?_⟩, ?_⟩, ?_⟩, ?_⟩, ?_⟩ ?_
    · refine Inv.duty_plain rfl rfl (fun L vs a x hG dep up val ev out K hK => ?_)
      obtain ⟨hS, hB, hW⟩ := hG
      have e0 : a.eval (.tmp 0) = .pointer (some ⟨c, 0, none⟩) := (out 0 (by kernel_rfl)).trans rfl
      refine Inv.wp_value (v := .pointer (some ⟨c, 0, none⟩)) ?_ (hK.out _ _ (World.grownBy.refl x _) rfl)
      clear hK K dep up val ev out
      generalize a.eval = ρ at *
      (simp [execOp, go_sem, *]; done)
    · refine Inv.duty_plain rfl rfl (fun L vs a x hG dep up val ev out K hK => ?_)
      obtain ⟨hS, hB, hW⟩ := hG
      have L29 := dep 0 (by kernel_rfl)
      have e29 : a.eval (.tmp 29) = .pointer (some ⟨c, 0, none⟩) := (ev 0 29 L29 (by kernel_rfl)).trans (val 0 L29)
      refine Inv.wp_value (v := .pointer (some ⟨c, 0, none⟩)) ?_ (hK.out _ _ (World.grownBy.refl x _) rfl)
      clear hK K dep up val ev out
      generalize a.eval = ρ at *
      (simp [execOp, go_sem, *]; done)
    · refine Inv.duty_plain rfl rfl (fun L vs a x hG dep up val ev out K hK => ?_)
      obtain ⟨hS, hB, hW⟩ := hG
      have L30 := dep 1 (by kernel_rfl)
      have e30 : a.eval (.tmp 30) = .pointer (some ⟨c, 0, none⟩) := (ev 1 30 L30 (by kernel_rfl)).trans (val 1 L30)
      refine Inv.wp_value (v := .pointer (some ⟨c, 0, none⟩)) ?_ (hK.out _ _ (World.grownBy.refl x _) rfl)
      clear hK K dep up val ev out
      generalize a.eval = ρ at *
      (simp [execOp, go_sem, *]; done)
    · refine Inv.duty_plain rfl rfl (fun L vs a x hG dep up val ev out K hK => ?_)
      obtain ⟨hS, hB, hW⟩ := hG
      have L31 := dep 2 (by kernel_rfl)
      have e31 : a.eval (.tmp 31) = .pointer (some ⟨c, 0, none⟩) := (ev 2 31 L31 (by kernel_rfl)).trans (val 2 L31)
      have q0 : x.cell? ⟨c, 0, none⟩ = some (.map (some b)) := hS.1.at_ rfl
      refine Inv.wp_value (v := .map (some b)) ?_ (hK.out _ _ (World.grownBy.refl x _) rfl)
      clear hK K dep up val ev out hS hB hW
      generalize a.eval = ρ at *
      (simp [execOp, go_sem, *]; done)
    · refine Inv.duty_plain rfl rfl (fun L vs a x hG dep up val ev out K hK => ?_)
      obtain ⟨hS, hB, hW⟩ := hG
      have e4 : a.eval (.tmp 4) = .pointer (some ⟨g4, 0, none⟩) := (out 4 (by kernel_rfl)).trans rfl
      refine wp_loadC aggA (.tmp 4) rfl hB (take_all (auC_length HOA.out)) (by rw [auC_length HOA.out]; omega) e4 (hK.out _ _ (World.grownBy.refl x _) rfl)
    · refine Inv.duty_plain rfl rfl (fun L vs a x hG dep up val ev out K hK => ?_)
      obtain ⟨hS, hB, hW⟩ := hG
      have L32 := dep 3 (by kernel_rfl)
      have e32 : a.eval (.tmp 32) = .map (some b) := (ev 3 32 L32 (by kernel_rfl)).trans (val 3 L32)
      have L33 := dep 4 (by kernel_rfl)
      have e33 : a.eval (.tmp 33) = .agg (auC u).toArray := (ev 4 33 L33 (by kernel_rfl)).trans (val 4 L33)
      refine wp_lookM keyedA auV_inj (.tmp 32) (.tmp 33) rfl Try.underlying47 zeroU_run hS.2.1 e32 u (key_au u HOA.out) e33 (fun _ _ => rfl) B HBB.out (hK.out _ _ (World.grownBy.refl x _) rfl)
    · refine Inv.duty_plain rfl rfl (fun L vs a x hG dep up val ev out K hK => ?_)
      obtain ⟨hS, hB, hW⟩ := hG
      have L34 := dep 5 (by kernel_rfl)
      have e34 : a.eval (.tmp 34) = .tuple #[.agg #[], .bool B] := (ev 5 34 L34 (by kernel_rfl)).trans (val 5 L34)
      refine Inv.wp_value (v := .tuple #[.agg #[], .bool B]) ?_ (hK.out _ _ (World.grownBy.refl x _) rfl)
      clear hK K dep up val ev out
      generalize a.eval = ρ at *
      (simp [execOp, go_sem, *]; done)
    · refine Inv.duty_plain rfl rfl (fun L vs a x hG dep up val ev out K hK => ?_)
      obtain ⟨hS, hB, hW⟩ := hG
      have L28 := dep 6 (by kernel_rfl)
      have e28 : a.eval (.tmp 28) = .tuple #[.agg #[], .bool B] := (ev 6 28 L28 (by kernel_rfl)).trans (val 6 L28)
      refine Inv.wp_value (v := .agg #[]) ?_ (hK.out _ _ (World.grownBy.refl x _) rfl)
      clear hK K dep up val ev out
      generalize a.eval = ρ at *
      (simp [execOp, go_sem, *]; done)
    · refine Inv.duty_plain rfl rfl (fun L vs a x hG dep up val ev out K hK => ?_)
      obtain ⟨hS, hB, hW⟩ := hG
      have L28 := dep 6 (by kernel_rfl)
      have e28 : a.eval (.tmp 28) = .tuple #[.agg #[], .bool B] := (ev 6 28 L28 (by kernel_rfl)).trans (val 6 L28)
      refine Inv.wp_value (v := .bool B) ?_ (hK.out _ _ (World.grownBy.refl x _) rfl)
      clear hK K dep up val ev out
      generalize a.eval = ρ at *
      (simp [execOp, go_sem, *]; done)
    · refine Inv.duty_plain rfl rfl (fun L vs a x hG dep up val ev out K hK => ?_)
      obtain ⟨hS, hB, hW⟩ := hG
      exact wp_allocC (cs := []) zeroU_run rfl (hK.out _ _ (grown_alloc x _ _) ⟨_, rfl, CB.new _ _ _⟩)
    · refine Inv.duty_plain rfl rfl (fun L vs a x hG dep up val ev out K hK => ?_)
      obtain ⟨hS, hB, hW⟩ := hG
      have L7 := dep 9 (by kernel_rfl)
      have e7 := ev 9 7 L7 (by kernel_rfl)
      have f7 := val 9 L7
      have L35 := dep 7 (by kernel_rfl)
      have e35 : a.eval (.tmp 35) = .agg #[] := (ev 7 35 L35 (by kernel_rfl)).trans (val 7 L35)
      obtain ⟨g, hv7, hc7⟩ := f7
      exact wp_storeC (off := 0) (p := []) aggU.hi (.tmp 7) (.tmp 35) rfl (.agg #[]) rfl (fun _ h => by cases h) hc7 rfl (Nat.le_refl _) (e7.trans hv7) e35 (fun w' h2 g2 => hK.out _ _ (grown_nothing hc7 (by rw [over_all _ _ (Nat.le_refl _)] at h2; exact h2) g2) trivial)
    · refine Inv.duty_plain rfl rfl (fun L vs a x hG dep up val ev out K hK => ?_)
      obtain ⟨hS, hB, hW⟩ := hG
      have L36 := dep 8 (by kernel_rfl)
      have e36 : a.eval (.tmp 36) = .bool B := (ev 8 36 L36 (by kernel_rfl)).trans (val 8 L36)
      refine Inv.wp_value (v := .bool B) ?_ (hK.out _ _ (World.grownBy.refl x _) rfl)
      clear hK K dep up val ev out
      generalize a.eval = ρ at *
      (simp [execOp, go_sem, *]; done)
    intro vs w' hG hv
    have hZ : vs 11 = .bool B := hv 11 (by omega)
    simp only [Inv.putAll, Act.put, List.setIfInBounds_toArray, List.set_cons_zero, List.set_cons_succ, Nat.zero_add, Nat.reduceAdd]
    rw [hZ]
    clear hv hZ
    have HS2 := Lib.hid hG.1
    have B2 := Lib.hid hG.2.1
    have G2 := Lib.hid hG.2.2
    clear hG
    rw [HBE.out]
    clear HBB
    go_wp2
    go_ret
    rw [HR.out]
    exact ⟨rfl, HS2.out, grown_trans' G1.out (grown_some G2.out b)⟩
  · rw [if_neg hin] at hr
    have HR := Lib.hid hr
    clear hr
    obtain ⟨B, hB⟩ : ∃ B : Bool, B = false := ⟨_, rfl⟩
    have HBB := Lib.hid (show B = true ↔ u ∈ keysM (setM s1.M) by rw [keys_setM, hB]; exact ⟨(fun h => by cases h), fun h => absurd h hin⟩)
    have HBE := Lib.hid hB
    have HIN := Lib.hid hin
    clear hin hB
    generalize hg4 : w.heap.size = g4 at *
    have HG4 := Lib.hid hg4
    clear hg4
    refine Inv.region_made (n := 12) (ds := [some 29, some 30, some 31, some 32, some 33, some 34, some 28, some 35, some 36, some 7, none, some 8]) (fun x => CS x c b s1 ∧ CB x g4 35 (auC u) ∧ w1.grownBy x none) (RySF c b u B) (by kernel_rfl) (by kernel_rfl) rfl (by kernel_rfl) (fun _ _ hg h => ⟨h.1.none hg, h.2.1.kept hg, grown_trans' h.2.2 hg⟩) (fun j v x y hg _ h => RySF.kept j v x y hg h) ⟨HS1.out, B1.out, grown_drew (World.grownBy.refl w1 none)⟩ ⟨⟨⟨⟨⟨⟨⟨⟨⟨⟨⟨⟨trivial, ?_⟩, ?_⟩, ?_⟩, ?_⟩, ?_⟩, ?_⟩, ?_⟩, ?_⟩, ?_⟩, ?_⟩, ?_⟩, ?_⟩ ?_
    · refine Inv.duty_plain rfl rfl (fun L vs a x hG dep up val ev out K hK => ?_)
      obtain ⟨hS, hB, hW⟩ := hG
      have e0 : a.eval (.tmp 0) = .pointer (some ⟨c, 0, none⟩) := (out 0 (by kernel_rfl)).trans rfl
      refine Inv.wp_value (v := .pointer (some ⟨c, 0, none⟩)) ?_ (hK.out _ _ (World.grownBy.refl x _) rfl)
      clear hK K dep up val ev out
      generalize a.eval = ρ at *
      (simp [execOp, go_sem, *]; done)
    · refine Inv.duty_plain rfl rfl (fun L vs a x hG dep up val ev out K hK => ?_)
      obtain ⟨hS, hB, hW⟩ := hG
      have L29 := dep 0 (by kernel_rfl)
      have e29 : a.eval (.tmp 29) = .pointer (some ⟨c, 0, none⟩) := (ev 0 29 L29 (by kernel_rfl)).trans (val 0 L29)
      refine Inv.wp_value (v := .pointer (some ⟨c, 0, none⟩)) ?_ (hK.out _ _ (World.grownBy.refl x _) rfl)
      clear hK K dep up val ev out
      generalize a.eval = ρ at *
      (simp [execOp, go_sem, *]; done)
    · refine Inv.duty_plain rfl rfl (fun L vs a x hG dep up val ev out K hK => ?_)
      obtain ⟨hS, hB, hW⟩ := hG
      have L30 := dep 1 (by kernel_rfl)
      have e30 : a.eval (.tmp 30) = .pointer (some ⟨c, 0, none⟩) := (ev 1 30 L30 (by kernel_rfl)).trans (val 1 L30)
      refine Inv.wp_value (v := .pointer (some ⟨c, 0, none⟩)) ?_ (hK.out _ _ (World.grownBy.refl x _) rfl)
      clear hK K dep up val ev out
      generalize a.eval = ρ at *
      (simp [execOp, go_sem, *]; done)
    · refine Inv.duty_plain rfl rfl (fun L vs a x hG dep up val ev out K hK => ?_)
      obtain ⟨hS, hB, hW⟩ := hG
      have L31 := dep 2 (by kernel_rfl)
      have e31 : a.eval (.tmp 31) = .pointer (some ⟨c, 0, none⟩) := (ev 2 31 L31 (by kernel_rfl)).trans (val 2 L31)
      have q0 : x.cell? ⟨c, 0, none⟩ = some (.map (some b)) := hS.1.at_ rfl
      refine Inv.wp_value (v := .map (some b)) ?_ (hK.out _ _ (World.grownBy.refl x _) rfl)
      clear hK K dep up val ev out hS hB hW
      generalize a.eval = ρ at *
      (simp [execOp, go_sem, *]; done)
    · refine Inv.duty_plain rfl rfl (fun L vs a x hG dep up val ev out K hK => ?_)
      obtain ⟨hS, hB, hW⟩ := hG
      have e4 : a.eval (.tmp 4) = .pointer (some ⟨g4, 0, none⟩) := (out 4 (by kernel_rfl)).trans rfl
      refine wp_loadC aggA (.tmp 4) rfl hB (take_all (auC_length HOA.out)) (by rw [auC_length HOA.out]; omega) e4 (hK.out _ _ (World.grownBy.refl x _) rfl)
    · refine Inv.duty_plain rfl rfl (fun L vs a x hG dep up val ev out K hK => ?_)
      obtain ⟨hS, hB, hW⟩ := hG
      have L32 := dep 3 (by kernel_rfl)
      have e32 : a.eval (.tmp 32) = .map (some b) := (ev 3 32 L32 (by kernel_rfl)).trans (val 3 L32)
      have L33 := dep 4 (by kernel_rfl)
      have e33 : a.eval (.tmp 33) = .agg (auC u).toArray := (ev 4 33 L33 (by kernel_rfl)).trans (val 4 L33)
      refine wp_lookM keyedA auV_inj (.tmp 32) (.tmp 33) rfl Try.underlying47 zeroU_run hS.2.1 e32 u (key_au u HOA.out) e33 (fun _ _ => rfl) B HBB.out (hK.out _ _ (World.grownBy.refl x _) rfl)
    · refine Inv.duty_plain rfl rfl (fun L vs a x hG dep up val ev out K hK => ?_)
      obtain ⟨hS, hB, hW⟩ := hG
      have L34 := dep 5 (by kernel_rfl)
      have e34 : a.eval (.tmp 34) = .tuple #[.agg #[], .bool B] := (ev 5 34 L34 (by kernel_rfl)).trans (val 5 L34)
      refine Inv.wp_value (v := .tuple #[.agg #[], .bool B]) ?_ (hK.out _ _ (World.grownBy.refl x _) rfl)
      clear hK K dep up val ev out
      generalize a.eval = ρ at *
      (simp [execOp, go_sem, *]; done)
    · refine Inv.duty_plain rfl rfl (fun L vs a x hG dep up val ev out K hK => ?_)
      obtain ⟨hS, hB, hW⟩ := hG
      have L28 := dep 6 (by kernel_rfl)
      have e28 : a.eval (.tmp 28) = .tuple #[.agg #[], .bool B] := (ev 6 28 L28 (by kernel_rfl)).trans (val 6 L28)
      refine Inv.wp_value (v := .agg #[]) ?_ (hK.out _ _ (World.grownBy.refl x _) rfl)
      clear hK K dep up val ev out
      generalize a.eval = ρ at *
      (simp [execOp, go_sem, *]; done)
    · refine Inv.duty_plain rfl rfl (fun L vs a x hG dep up val ev out K hK => ?_)
      obtain ⟨hS, hB, hW⟩ := hG
      have L28 := dep 6 (by kernel_rfl)
      have e28 : a.eval (.tmp 28) = .tuple #[.agg #[], .bool B] := (ev 6 28 L28 (by kernel_rfl)).trans (val 6 L28)
      refine Inv.wp_value (v := .bool B) ?_ (hK.out _ _ (World.grownBy.refl x _) rfl)
      clear hK K dep up val ev out
      generalize a.eval = ρ at *
      (simp [execOp, go_sem, *]; done)
    · refine Inv.duty_plain rfl rfl (fun L vs a x hG dep up val ev out K hK => ?_)
      obtain ⟨hS, hB, hW⟩ := hG
      exact wp_allocC (cs := []) zeroU_run rfl (hK.out _ _ (grown_alloc x _ _) ⟨_, rfl, CB.new _ _ _⟩)
    · refine Inv.duty_plain rfl rfl (fun L vs a x hG dep up val ev out K hK => ?_)
      obtain ⟨hS, hB, hW⟩ := hG
      have L7 := dep 9 (by kernel_rfl)
      have e7 := ev 9 7 L7 (by kernel_rfl)
      have f7 := val 9 L7
      have L35 := dep 7 (by kernel_rfl)
      have e35 : a.eval (.tmp 35) = .agg #[] := (ev 7 35 L35 (by kernel_rfl)).trans (val 7 L35)
      obtain ⟨g, hv7, hc7⟩ := f7
      exact wp_storeC (off := 0) (p := []) aggU.hi (.tmp 7) (.tmp 35) rfl (.agg #[]) rfl (fun _ h => by cases h) hc7 rfl (Nat.le_refl _) (e7.trans hv7) e35 (fun w' h2 g2 => hK.out _ _ (grown_nothing hc7 (by rw [over_all _ _ (Nat.le_refl _)] at h2; exact h2) g2) trivial)
    · refine Inv.duty_plain rfl rfl (fun L vs a x hG dep up val ev out K hK => ?_)
      obtain ⟨hS, hB, hW⟩ := hG
      have L36 := dep 8 (by kernel_rfl)
      have e36 : a.eval (.tmp 36) = .bool B := (ev 8 36 L36 (by kernel_rfl)).trans (val 8 L36)
      refine Inv.wp_value (v := .bool B) ?_ (hK.out _ _ (World.grownBy.refl x _) rfl)
      clear hK K dep up val ev out
      generalize a.eval = ρ at *
      (simp [execOp, go_sem, *]; done)
    intro vs w' hG hv
    have hZ : vs 11 = .bool B := hv 11 (by omega)
    simp only [Inv.putAll, Act.put, List.setIfInBounds_toArray, List.set_cons_zero, List.set_cons_succ, Nat.zero_add, Nat.reduceAdd]
    rw [hZ]
    clear hv hZ
    have HS2 := Lib.hid hG.1
    have B2 := Lib.hid hG.2.1
    have G2 := Lib.hid hG.2.2
    clear hG
    rw [HBE.out]
    clear HBB
    have q0 : w'.cell? ⟨c, 0, none⟩ = some (.map (some b)) := HS2.out.1.at_ rfl
    by_cases h16 : 16 ≤ s1.M.length
    · have hr := HR.out
      rw [if_pos h16] at hr
      have HR2 := Lib.hid hr
      clear hr
      have d1 : decide ((16 : Int) ≤ (s1.M.length : Int)) = true := decide_eq_true (by omega)
      have HLL := Lib.hid (length_setM s1.M)
      clear h16
      go_wp2_with (refine wpList_lenM rfl _ rfl Try.underlying47 HS2.out.2.1 rfl ?_; rw [HLL.out])
      go_ret
      rw [HR2.out]
      exact ⟨rfl, HS2.out, grown_trans' G1.out (grown_some G2.out b)⟩
    · have hr := HR.out
      rw [if_neg h16] at hr
      have HR2 := Lib.hid hr
      clear hr
      have d1 : decide ((16 : Int) ≤ (s1.M.length : Int)) = false := decide_eq_false (by omega)
      have HLL := Lib.hid (length_setM s1.M)
      have q4 := B2.out.at_ (auC_c u)
      have HSZ := Lib.hid (show (⟨u.1.toArray⟩ : ByteArray).size ≤ 1000000 by have := HOA.out.lc; show u.1.toArray.size ≤ _; rw [List.size_toArray]; omega)
      clear h16
      go_wp2_with (first
        | (refine wpList_lenM rfl _ rfl Try.underlying47 HS2.out.2.1 rfl ?_; rw [HLL.out])
        | (go_at_call 18; refine (sclone_any _ _ HSZ.out).mono ?_; rintro e w3 ⟨rfl, hb3⟩; have G3' := Lib.hid (none_of_below hb3 (Nat.le_refl _)); have HS3 := Lib.hid (HS2.out.none G3'.out); have B3 := Lib.hid (B2.out.kept G3'.out); have G3 := Lib.hid (grown_trans' G2.out G3'.out); clear hb3 q0 q4)
        | (refine wpList_storeC (off := 0) (p := [.string ⟨u.1.toArray⟩]) sizeS rfl (.tmp 47) (.tmp 46) rfl (.string ⟨u.1.toArray⟩) rfl (fun x hx => by rw [List.mem_singleton.1 hx]; rfl) B3.out rfl (by rw [auC_length HOA.out]; omega) (by first | rfl | go_simp) (by first | rfl | go_simp) ?_; intro w4 h4 g4'; have B4 := Lib.hid (show CB w4 g4 35 (auC u) from h4); have HS4 := Lib.hid (HS3.out.far g4' (by have := HNC.out; omega) (by have := HNB.out; omega)); have G4 := Lib.hid g4'; clear h4 g4'))
      have q5 : w4.cell? ⟨c, 0, none⟩ = some (.map (some b)) := HS4.out.1.at_ rfl
      have HS5 := Lib.hid (show CS w4.drew c b s1 from HS4.out)
      have HWO := Lib.hid (without_setM HIN.out)
      go_still_tail 6, (by kernel_rfl)
      refine wpStill_step (fun KK hK => ?_)
      refine still_loadC aggA (.tmp 4) rfl B4.out (take_all (auC_length HOA.out)) (by rw [auC_length HOA.out]; omega) rfl (hK _ ?_)
      clear hK KK
      repeat still_step
      refine wpStill_nil ?_
      change wpList _ _ _ _ _ w4.drew
      go_wp2_with (refine wpList_putM keyedA auV_inj rfl _ _ _ rfl Try.underlying47 HS5.out.2.1 (by have := HLS.out; rw [HLL.out]; unfold maxLen; omega) rfl u () (key_au u HOA.out) rfl rfl ?_; intro w5 hM5 hT5; rw [HWO.out] at hM5)

      go_ret
      have e2 : s1.cl = s.cl := by rw [HS1E.out]
      have e3 : s1.beg = s.beg := by rw [HS1E.out]
      rw [HR2.out, ← e2, ← e3]
      have hok : ∀ x ∈ s1.M ++ [u], auOk x := by
        intro x hx
        rcases List.mem_append.1 hx with hx | hx
        · exact HS5.out.2.2.2.2 x hx
        · rw [List.mem_singleton.1 hx]; exact HOA.out
      exact ⟨rfl, ⟨HS5.out.1.grown hT5.grown HS5.out.2.2.1, (by rw [show setM (s1.M ++ [u]) = setM s1.M ++ [(u, ())] from List.map_append]; exact hM5), HS5.out.2.2.1, HS5.out.2.2.2.1, hok⟩,
        grown_trans' (grown_drew (grown_new (grown_trans' G1.out (grown_some G3.out b)) G4.out (Nat.le_of_eq HG4.out))) hT5.grown⟩

theorem seen_any (w : World) (c b : Nat) (s : St) (u : Au) (now : Int) (h : CS w c b s) (hu : auOk u) (hn : I64 now) (hlen : s.M.length ≤ 1000000) :
    Calls Try.prog 12 #[.pointer (some ⟨c, 0, none⟩), .agg (auC u).toArray, .int .i64 now] w (SeenR w c b (seenOf s u now)) := by
  unfold seenOf
  by_cases h1 : far u.2.1 now = true ∨ far now u.2.1 = true
  · rw [if_pos h1]
    exact seen_far w c b s u now h hu hn h1
  · rw [if_neg h1]
    have f1 : far u.2.1 now = false := by
      cases hf : far u.2.1 now with
      | true => exact absurd (Or.inl hf) h1
      | false => rfl
    have f2 : far now u.2.1 = false := by
      cases hf : far now u.2.1 with
      | true => exact absurd (Or.inr hf) h1
      | false => rfl
    by_cases h2 : s.cl = true ∧ far u.2.1 s.beg = false
    · rw [if_pos h2]
      exact seen_shut w c b s u now h hu hn f1 f2 (by rw [h2.1, h2.2]; rfl)
    · rw [if_neg h2]
      refine seen_open w c b s u now h hu hn f1 f2 ?_ hlen
      cases hc : s.cl with
      | false => rfl
      | true =>
        cases hf : far u.2.1 s.beg with
        | true => rfl
        | false => exact absurd ⟨hc, hf⟩ h2
end Go.Proofs.Ytgamlioahdbikaa
