/- The walks of cache's Put and Servers. -/
import Derived.Test.YtfpcabfpnekejaaDoorCab
namespace Go.Proofs.YtfpcabfpnekejaaDoor
open Go.RowKit Go.Maps Go.WideMaps

theorem WrN.stepC {B0 n : Nat} {t : TypeId} {x y w : World} (h : WrN B0 t n x y) (hG : w.grownBy x none ∧ B0 ≤ x.heap.size) (hw : w.heap.size ≤ B0) : w.grownBy y none ∧ B0 ≤ y.heap.size := by
  obtain ⟨h3, h4⟩ := hG
  rcases h with h | ⟨g, hg, h, -⟩
  · exact ⟨grown_trans' h3 h, Nat.le_trans h4 h.size⟩
  · exact ⟨none_new h3 h (by omega), Nat.le_trans h4 h.size⟩
theorem none_mapC {a b c : World} {g : Nat} (h : a.grownBy b (some g)) (k : b.grownBy c none) : a.grownBy c (some g) := grown_trans' h (grown_some k g)
/-- Each ticket's bytes lie below B. -/
def BelowB (B : Nat) (M : Cm) : Prop := ∀ p ∈ M, ∀ a, p.2.2.1 = some a → p.2.1.tk = [] ∨ a.block < B
theorem CmOk.belowB {w : World} {b : Nat} {M : Cm} (h : CmOk w b M) : BelowB w.heap.size M := by
  intro p hp a ha
  obtain ⟨h1, h2, h3⟩ := (h p hp).2.2.1
  by_cases hl : p.2.1.tk = []
  · exact .inl hl
  · rcases h3 with ⟨e, _⟩ | ⟨a', hA, hc⟩
    · rw [e] at ha; cases ha
    · rw [hA] at ha
      injection ha with ha
      subst ha
      obtain ⟨u, l, hul⟩ := List.exists_cons_of_ne_nil hl
      exact .inr (hc 0 u (by rw [hul]; rfl)).1
theorem BelowB.sub {B : Nat} {M M' : Cm} (h : BelowB B M) (hs : ∀ p ∈ M', p ∈ M) : BelowB B M' := fun p hp => h p (hs p hp)
/-- A block that isn't the map's, nor a ticket's, is written. -/
theorem KS.farC {w w' : World} {c b g : Nat} {M : Cm} (h : KS w c b M) (hg : w.grownBy w' (some g)) (h1 : g ≠ c) (h2 : g ≠ b) {B : Nat} (hB : BelowB B M) (h3 : B ≤ g) : KS w' c b M :=
  ⟨h.1.grown hg (fun e => h1 e.symm), h.2.1.kept hg (fun e => h2 (by injection e with e; exact e.symm)), h.2.2.1, fun p hp => ⟨(h.2.2.2 p hp).1, (h.2.2.2 p hp).2.1,
    ⟨(h.2.2.2 p hp).2.2.1.apartC hg (fun a ha => (hB p hp a ha).imp id (fun hlt e => by injection e with e; omega)), (h.2.2.2 p hp).2.2.2⟩⟩⟩
theorem live_sub {M : Cm} {now : Int} : ∀ p ∈ liveM M now, p ∈ M := fun _ hp => (List.mem_filter.1 hp).1

def CacF (x : Cd) (V : Ce) (c b g0 B0 : Nat) (B : Bool) : Nat → Value → World → Prop
  | 0, v, _ => v = .pointer (some ⟨c, 0, none⟩)
  | 1, v, _ => v = .pointer (some ⟨c, 0, none⟩)
  | 2, v, _ => v = .pointer (some ⟨c, 0, none⟩)
  | 3, v, _ => v = .map (some b)
  | 4, v, _ => v = .pointer (some ⟨g0, 2, none⟩)
  | 5, v, _ => v = .pointer (some ⟨g0, 2, none⟩)
  | 6, v, _ => v = .string ⟨x.sv.toArray⟩
  | 7, v, _ => v = .tuple #[ceV V, .bool B]
  | 8, v, _ => v = .tuple #[ceV V, .bool B]
  | 9, v, _ => v = ceV V
  | 10, v, _ => v = .bool B
  | 11, v, y => ∃ g, v = .pointer (some ⟨g, 0, none⟩) ∧ B0 ≤ g ∧ ∃ cs, CB y g 38 cs ∧ cs.length = 23
  | 12, _, _ => True
  | 13, v, _ => v = .bool B
  | _, _, _ => True
theorem CacF.kept {x : Cd} {V : Ce} {c b g0 B0 : Nat} {B : Bool} : ∀ (j : Nat) (v : Value) (y z : World), WrN B0 38 23 y z → CacF x V c b g0 B0 B j v y → CacF x V c b g0 B0 B j v z
  | 0, _, _, _, _, h => h
  | 1, _, _, _, _, h => h
  | 2, _, _, _, _, h => h
  | 3, _, _, _, _, h => h
  | 4, _, _, _, _, h => h
  | 5, _, _, _, _, h => h
  | 6, _, _, _, _, h => h
  | 7, _, _, _, _, h => h
  | 8, _, _, _, _, h => h
  | 9, _, _, _, _, h => h
  | 10, _, _, _, _, h => h
  | 11, _, _, _, hg, ⟨g, h1, h2, cs, h3, h4⟩ => ⟨g, h1, h2, hg.block h3 h4⟩
  | 12, _, _, _, _, h => h
  | 13, _, _, _, _, h => h
  | _ + 14, _, _, _, _, _ => by simp [CacF]

/-- What Put makes of a memory of tickets. -/
def PutC (M : Cm) (x : Cd) (now : Int) (M' : Cm) (n : Int) : Prop :=
  if rightC x = false then M' = M ∧ n = 1 else if x.en < now then M' = M ∧ n = 63 else if x.sv ∉ keysM (liveM M now) ∧ 8 ≤ (liveM M now).length then M' = liveM M now ∧ n = 2 else ∃ A' c', M' = withoutM (liveM M now) x.sv ++ [(x.sv, (x, A', c'))] ∧ n = 0
/-- What is new in a memory lies in new memory. -/
def NewB (B : Nat) (M M' : Cm) : Prop := ∀ q ∈ M', q ∈ M ∨ ∀ a, q.2.2.1 = some a → B ≤ a.block
def PutR2 (w : World) (c b : Nat) (M : Cm) (x : Cd) (now : Int) (e : Ending) (w' : World) : Prop := ∃ M' n, e = .returned (.int .i64 n) ∧ PutC M x now M' n ∧ KS w' c b M' ∧ w.grownBy w' (some b) ∧ NewB w.heap.size M M'
def PutRC (w : World) (c b : Nat) (M : Cm) (x : Cd) (now : Int) (e : Ending) (w' : World) : Prop := ∃ M' n, e = .returned (.int .i64 n) ∧ PutC M x now M' n ∧ KS w' c b M' ∧ w.grownBy w' (some b)

set_option maxRecDepth 10000 in
set_option maxHeartbeats 2000000 in
theorem cput_early (x : Cd) (A : Option Addr) (c0 : Nat) (h : cdOk x) (w : World) (hM : ML w) (c b : Nat) (M : Cm) (hS : KS w c b M) (now : Int) (hr : rightC x = false ∨ x.en < now) :
    Calls Tryd.prog 9 #[.pointer (some ⟨c, 0, none⟩), .agg (cdC x A c0).toArray, .int .i64 now] w (PutR2 w c b M x now) := by
  have HO := Lib.hid h
  have HLC := Lib.hid (cdC_length h.w.lk A c0)
  have HL2 := Lib.hid (fun A' c' => (cdC_length h.w.lk A' c' : (cdC x A' c').length = 23))
  have HLZ := Lib.hid zeroCe_length
  have HOK := Lib.hid (okS x.sv (by have := h.ls; omega))
  have HLB := Lib.hid hS.lt
  have HM2 := Lib.hid (show ML ((w.alloc (.cells (cdC x A c0).toArray 38)).alloc (.cells #[.int .i64 now] 2)) from hM.below (((Below.refl _ _).alloc (Nat.le_refl _) _).trans ((Below.refl _ _).alloc (by rw [World.size_alloc]; omega) _)))
  have HG := Lib.hid (grown_trans' (grown_alloc w (.cells (cdC x A c0).toArray 38) none) (grown_alloc _ (.cells #[.int .i64 now] 2) none))
  have HB := Lib.hid ((CB.new w 38 (cdC x A c0)).alloc (.cells #[.int .i64 now] 2))
  have HN := Lib.hid (CB.new1 w (.cells (cdC x A c0).toArray 38) 2 [.int .i64 now])
  have HS := Lib.hid (hS.none HG.out)
  have HSZ := Lib.hid (show w.heap.size + 2 ≤ ((w.alloc (.cells (cdC x A c0).toArray 38)).alloc (.cells #[.int .i64 now] 2)).heap.size by rw [World.size_alloc, World.size_alloc]; omega)
  have TK0 := Lib.hid True.intro
  cases hr1 : rightC x with
  | false =>
    have HR := Lib.hid hr1
    have HP := Lib.hid (show PutC M x now M 1 by unfold PutC; rw [if_pos hr1]; exact ⟨rfl, rfl⟩)
    clear h hM hS hr hr1
    go_enter Tryd.func9, Tryd.ntmps9
    go_wp2_with (first
    | (have hx := TK0; refine wpList_loadC (off := 0) (p := cdC x A c0) aggC rfl (.tmp 4) rfl HB.out (take_all HLC.out) (by rw [HLC.out]; omega) (by first | rfl | go_simp) ?_; clear hx TK0; have TK1 := Lib.hid True.intro)
    | (have hx := TK1; go_at_call 16; refine (cisRight_any (x, A, c0) HO.out _ HM2.out).mono ?_; rintro r w1 ⟨rfl, g1⟩; rw [HR.out]; have S1 := Lib.hid (HS.out.none g1); have B1 := Lib.hid (HB.out.kept g1); have N1 := Lib.hid (HN.out.kept g1); have GN1 := Lib.hid (grown_trans' HG.out g1); have G1 := Lib.hid (grown_some GN1.out b); have SZ1 := Lib.hid (Nat.le_trans HSZ.out g1.size); have q1 := N1.out.at_ (i := 0) rfl; clear g1 hx TK1; have TK2 := Lib.hid True.intro))
    go_ret
    exact ⟨M, 1, rfl, HP.out, S1.out, G1.out, fun q hq => .inl hq⟩
  | true =>
    have hov : x.en < now := hr.resolve_left (by rw [hr1]; simp)
    have HR := Lib.hid hr1
    have HOV := Lib.hid (decide_eq_true hov)
    have HP := Lib.hid (show PutC M x now M 63 by unfold PutC; rw [if_neg (by rw [hr1]; simp), if_pos hov]; exact ⟨rfl, rfl⟩)
    clear h hM hS hr hr1 hov
    go_enter Tryd.func9, Tryd.ntmps9
    go_wp2_with (first
    | (have hx := TK0; refine wpList_loadC (off := 0) (p := cdC x A c0) aggC rfl (.tmp 4) rfl HB.out (take_all HLC.out) (by rw [HLC.out]; omega) (by first | rfl | go_simp) ?_; clear hx TK0; have TK1 := Lib.hid True.intro)
    | (have hx := TK1; go_at_call 16; refine (cisRight_any (x, A, c0) HO.out _ HM2.out).mono ?_; rintro r w1 ⟨rfl, g1⟩; rw [HR.out]; have S1 := Lib.hid (HS.out.none g1); have B1 := Lib.hid (HB.out.kept g1); have N1 := Lib.hid (HN.out.kept g1); have GN1 := Lib.hid (grown_trans' HG.out g1); have G1 := Lib.hid (grown_some GN1.out b); have SZ1 := Lib.hid (Nat.le_trans HSZ.out g1.size); have q1 := N1.out.at_ (i := 0) rfl; clear g1 hx TK1; have TK2 := Lib.hid True.intro)
    | (have hx := TK2; refine wpList_loadC (off := 0) (p := cdC x A c0) aggC rfl (.tmp 4) rfl B1.out (take_all HLC.out) (by rw [HLC.out]; omega) (by first | rfl | go_simp) ?_; clear hx TK2)
    | (go_at_call 17; refine (isOver_any (x, A, c0) HO.out.w.lk now _).mono ?_; rintro r wo ⟨rfl, go⟩; rw [HOV.out]; have SO := Lib.hid (S1.out.none go); have BO := Lib.hid (B1.out.kept go); have NO := Lib.hid (N1.out.kept go); have GN := Lib.hid (grown_trans' GN1.out go); have GO := Lib.hid (grown_some GN.out b); have SZO := Lib.hid (Nat.le_trans SZ1.out go.size); have q0 := SO.out.1.at_ (i := 0) rfl; clear go q1))
    go_ret
    exact ⟨M, 63, rfl, HP.out, SO.out, GO.out, fun q hq => .inl hq⟩

set_option maxRecDepth 10000 in
set_option maxHeartbeats 4000000 in
theorem cput_late (x : Cd) (A : Option Addr) (c0 : Nat) (h : cdOk x) (w : World) (hM : ML w) (hT : RB w w.heap.size A x.tk c0) (c b : Nat) (hTb : ∀ a, A = some a → x.tk = [] ∨ a.block ≠ b) (M : Cm) (hS : KS w c b M) (hlen : M.length ≤ 1000000) (now : Int) (hr1 : rightC x = true) (hov : ¬ x.en < now) :
    Calls Tryd.prog 9 #[.pointer (some ⟨c, 0, none⟩), .agg (cdC x A c0).toArray, .int .i64 now] w (PutR2 w c b M x now) := by
  have HO := Lib.hid h
  have HLC := Lib.hid (cdC_length h.w.lk A c0)
  have HL2 := Lib.hid (fun A' c' => (cdC_length h.w.lk A' c' : (cdC x A' c').length = 23))
  have HLZ := Lib.hid zeroCe_length
  have HOK := Lib.hid (okS x.sv (by have := h.ls; omega))
  have HLB := Lib.hid hS.lt
  have HM2 := Lib.hid (show ML ((w.alloc (.cells (cdC x A c0).toArray 38)).alloc (.cells #[.int .i64 now] 2)) from hM.below (((Below.refl _ _).alloc (Nat.le_refl _) _).trans ((Below.refl _ _).alloc (by rw [World.size_alloc]; omega) _)))
  have HG := Lib.hid (grown_trans' (grown_alloc w (.cells (cdC x A c0).toArray 38) none) (grown_alloc _ (.cells #[.int .i64 now] 2) none))
  have HB := Lib.hid ((CB.new w 38 (cdC x A c0)).alloc (.cells #[.int .i64 now] 2))
  have HN := Lib.hid (CB.new1 w (.cells (cdC x A c0).toArray 38) 2 [.int .i64 now])
  have HS := Lib.hid (hS.none HG.out)
  have HSZ := Lib.hid (show w.heap.size + 2 ≤ ((w.alloc (.cells (cdC x A c0).toArray 38)).alloc (.cells #[.int .i64 now] 2)).heap.size by rw [World.size_alloc, World.size_alloc]; omega)
  have TK0 := Lib.hid True.intro
  have HR := Lib.hid hr1
  have HOV := Lib.hid (decide_eq_false hov)
  have HP := Lib.hid (show ∀ M' n, (if x.sv ∉ keysM (liveM M now) ∧ 8 ≤ (liveM M now).length then M' = liveM M now ∧ n = 2 else ∃ A' c', M' = withoutM (liveM M now) x.sv ++ [(x.sv, (x, A', c'))] ∧ n = 0) → PutC M x now M' n from fun M' n h => by unfold PutC; rw [if_neg (by rw [hr1]; simp), if_neg hov]; exact h)
  obtain ⟨M1, hM1⟩ : ∃ M1, M1 = liveM M now := ⟨_, rfl⟩
  rw [← hM1] at HP
  have HM1E := Lib.hid hM1
  have HLN := Lib.hid (show M1.length ≤ 1000000 by rw [hM1]; exact Nat.le_trans (List.length_filter_le _ _) hlen)
  have HBW := Lib.hid (show BelowB w.heap.size M1 by rw [hM1]; exact hS.2.2.2.belowB.sub live_sub)
  have HKY := Lib.hid (show ∀ p ∈ M, p.2.1.ky.length = 16 from fun p hp => (hS.2.2.2 p hp).2.1.w.lk)
  have HT0 := Lib.hid hT
  have HTB := Lib.hid hTb
  clear h hM hT hTb hS hr1 hov hM1 hlen
  go_enter Tryd.func9, Tryd.ntmps9
  go_wp2_with (first
    | (have hx := TK0; refine wpList_loadC (off := 0) (p := cdC x A c0) aggC rfl (.tmp 4) rfl HB.out (take_all HLC.out) (by rw [HLC.out]; omega) (by first | rfl | go_simp) ?_; clear hx TK0; have TK1 := Lib.hid True.intro)
    | (have hx := TK1; go_at_call 16; refine (cisRight_any (x, A, c0) HO.out _ HM2.out).mono ?_; rintro r w1 ⟨rfl, g1⟩; rw [HR.out]; have S1 := Lib.hid (HS.out.none g1); have B1 := Lib.hid (HB.out.kept g1); have N1 := Lib.hid (HN.out.kept g1); have GN1 := Lib.hid (grown_trans' HG.out g1); have G1 := Lib.hid (grown_some GN1.out b); have SZ1 := Lib.hid (Nat.le_trans HSZ.out g1.size); have q1 := N1.out.at_ (i := 0) rfl; clear g1 hx TK1; have TK2 := Lib.hid True.intro)
    | (have hx := TK2; refine wpList_loadC (off := 0) (p := cdC x A c0) aggC rfl (.tmp 4) rfl B1.out (take_all HLC.out) (by rw [HLC.out]; omega) (by first | rfl | go_simp) ?_; clear hx TK2)
    | (go_at_call 17; refine (isOver_any (x, A, c0) HO.out.w.lk now _).mono ?_; rintro r wo ⟨rfl, go⟩; rw [HOV.out]; have SO := Lib.hid (S1.out.none go); have BO := Lib.hid (B1.out.kept go); have NO := Lib.hid (N1.out.kept go); have GN := Lib.hid (grown_trans' GN1.out go); have GO := Lib.hid (grown_some GN.out b); have SZO := Lib.hid (Nat.le_trans SZ1.out go.size); have q0 := SO.out.1.at_ (i := 0) rfl; clear go q1)
    | (go_at_call 18; refine (delC_any b (w.heap.size + 1) M now _ SO.out.2.1 HKY.out (NO.out.at_ rfl) (by have := HLB.out; omega)).mono ?_; rintro r w1 ⟨rfl, hm1, g1⟩; rw [← HM1E.out] at hm1
       have HS1 := Lib.hid (SO.out.map hm1 g1 (by rw [HM1E.out]; exact live_sub)); have G1 := Lib.hid (grown_trans' GO.out g1); have HB1 := Lib.hid (BO.out.grown g1 (by have := HLB.out; omega)); have HSZ1 := Lib.hid (show w.heap.size + 2 ≤ w1.heap.size from Nat.le_trans SZO.out g1.size)
       have HT1 := Lib.hid (TBk.map (p := (x, A, c0)) ⟨((HT0.out.kept GN.out (Nat.le_refl _)).more GN.out.size), HTB.out⟩ g1)
       clear hm1 g1 q0))
  obtain ⟨V, B, hV, hBk⟩ : ∃ (V : Ce) (B : Bool), ((∀ u, (x.sv, u) ∈ M1 → ceV V = ceV u ∧ B = true) ∧ (x.sv ∉ keysM M1 → ceV V = .agg (ceC zeroCe).toArray ∧ B = false) ∧ V.1.ky.length = 16) ∧ (B = true ↔ x.sv ∈ keysM M1) := by
    by_cases hin : x.sv ∈ keysM M1
    · obtain ⟨v, hv⟩ := mem_keysM.1 hin
      exact ⟨v, true, ⟨fun u hu => ⟨by have := uniqM HS1.out.2.1.1.1 hu hv rfl; injection this with _ this; rw [this], rfl⟩, fun h2 => absurd hin h2, (HS1.out.2.2.2 _ hv).2.1.w.lk⟩, fun _ => hin, fun _ => rfl⟩
    · exact ⟨zeroCe, false, ⟨fun u hu => absurd (mem_keysM.2 ⟨u, hu⟩) hin, fun _ => ⟨rfl, rfl⟩, zeros_length 16⟩, (fun h2 => by cases h2), fun h2 => absurd h2 hin⟩
  have HV1 := Lib.hid hV.1
  have HV2 := Lib.hid hV.2.1
  have HLV := Lib.hid (show (ceC V).length = 23 from cdC_length hV.2.2 _ _)
  have HW0 := Lib.hid (show w1.heap.size ≤ w1.drew.heap.size from Nat.le_refl _)
  have HGB := Lib.hid (show w.heap.size ≠ c ∧ w.heap.size ≠ b by have := HLB.out; omega)
  have HGL := Lib.hid (Nat.le_refl w.heap.size)
  generalize hg0 : w.heap.size = g0 at *
  have HG0 := Lib.hid hg0
  generalize hB0 : w1.heap.size = B0 at *
  have HWB := Lib.hid hB0
  clear hg0 hB0 hV
  refine region_wr (n := 14) (ds := [some 24, some 25, some 26, some 27, some 28, some 29, some 30, some 31, some 23, some 32, some 33, some 7, none, some 8]) (WrN B0 38 23) (fun y => w1.grownBy y none ∧ B0 ≤ y.heap.size) (CacF x V c b g0 B0 B) (by kernel_rfl) (by kernel_rfl) rfl (by kernel_rfl) (fun y z hg h => hg.stepC h (Nat.le_of_eq HWB.out)) (fun j v y z hg _ h => CacF.kept j v y z hg h) ⟨grown_drew (World.grownBy.refl w1 none), HW0.out⟩ ⟨⟨⟨⟨⟨⟨⟨⟨⟨⟨⟨⟨⟨⟨trivial, ?_⟩, ?_⟩, ?_⟩, ?_⟩, ?_⟩, ?_⟩, ?_⟩, ?_⟩, ?_⟩, ?_⟩, ?_⟩, ?_⟩, ?_⟩, ?_⟩ ?_
  · refine Inv.duty_plain rfl rfl (fun L vs a y hG dep up val ev out K hK => ?_)
    obtain ⟨hW, hZ⟩ := hG
    have e0 : a.eval (.tmp 0) = .pointer (some ⟨c, 0, none⟩) := (out 0 (by kernel_rfl)).trans rfl
    refine Inv.wp_value (v := .pointer (some ⟨c, 0, none⟩)) ?_ (hK.out _ _ (WrN.refl y) rfl)
    clear hK K dep up val ev out
    generalize a.eval = ρ at *
    (simp [execOp, go_sem, *]; done)
  · refine Inv.duty_plain rfl rfl (fun L vs a y hG dep up val ev out K hK => ?_)
    obtain ⟨hW, hZ⟩ := hG
    have L24 := dep 0 (by kernel_rfl)
    have e24 : a.eval (.tmp 24) = .pointer (some ⟨c, 0, none⟩) := (ev 0 24 L24 (by kernel_rfl)).trans (val 0 L24)
    refine Inv.wp_value (v := .pointer (some ⟨c, 0, none⟩)) ?_ (hK.out _ _ (WrN.refl y) rfl)
    clear hK K dep up val ev out
    generalize a.eval = ρ at *
    (simp [execOp, go_sem, *]; done)
  · refine Inv.duty_plain rfl rfl (fun L vs a y hG dep up val ev out K hK => ?_)
    obtain ⟨hW, hZ⟩ := hG
    have L25 := dep 1 (by kernel_rfl)
    have e25 : a.eval (.tmp 25) = .pointer (some ⟨c, 0, none⟩) := (ev 1 25 L25 (by kernel_rfl)).trans (val 1 L25)
    refine Inv.wp_value (v := .pointer (some ⟨c, 0, none⟩)) ?_ (hK.out _ _ (WrN.refl y) rfl)
    clear hK K dep up val ev out
    generalize a.eval = ρ at *
    (simp [execOp, go_sem, *]; done)
  · refine Inv.duty_plain rfl rfl (fun L vs a y hG dep up val ev out K hK => ?_)
    obtain ⟨hW, hZ⟩ := hG
    have L26 := dep 2 (by kernel_rfl)
    have e26 : a.eval (.tmp 26) = .pointer (some ⟨c, 0, none⟩) := (ev 2 26 L26 (by kernel_rfl)).trans (val 2 L26)
    have q0 : y.cell? ⟨c, 0, none⟩ = some (.map (some b)) := (HS1.out.none hW).1.at_ rfl
    refine Inv.wp_value (v := .map (some b)) ?_ (hK.out _ _ (WrN.refl y) rfl)
    clear hK K dep up val ev out hW hZ
    generalize a.eval = ρ at *
    (simp [execOp, go_sem, *]; done)
  · refine Inv.duty_plain rfl rfl (fun L vs a y hG dep up val ev out K hK => ?_)
    obtain ⟨hW, hZ⟩ := hG
    have e4 : a.eval (.tmp 4) = .pointer (some ⟨g0, 0, none⟩) := (out 4 (by kernel_rfl)).trans rfl
    refine Inv.wp_value (v := .pointer (some ⟨g0, 2, none⟩)) ?_ (hK.out _ _ (WrN.refl y) rfl)
    clear hK K dep up val ev out
    generalize a.eval = ρ at *
    (simp [execOp, go_sem, *]; done)
  · refine Inv.duty_plain rfl rfl (fun L vs a y hG dep up val ev out K hK => ?_)
    obtain ⟨hW, hZ⟩ := hG
    have L28 := dep 4 (by kernel_rfl)
    have e28 : a.eval (.tmp 28) = .pointer (some ⟨g0, 2, none⟩) := (ev 4 28 L28 (by kernel_rfl)).trans (val 4 L28)
    refine Inv.wp_value (v := .pointer (some ⟨g0, 2, none⟩)) ?_ (hK.out _ _ (WrN.refl y) rfl)
    clear hK K dep up val ev out
    generalize a.eval = ρ at *
    (simp [execOp, go_sem, *]; done)
  · refine Inv.duty_plain rfl rfl (fun L vs a y hG dep up val ev out K hK => ?_)
    obtain ⟨hW, hZ⟩ := hG
    have L29 := dep 5 (by kernel_rfl)
    have e29 : a.eval (.tmp 29) = .pointer (some ⟨g0, 2, none⟩) := (ev 5 29 L29 (by kernel_rfl)).trans (val 5 L29)
    have q0 : y.cell? ⟨g0, 2, none⟩ = some (.string ⟨x.sv.toArray⟩) := (HB1.out.kept hW).at_ (cdC_sv x A c0)
    refine Inv.wp_value (v := .string ⟨x.sv.toArray⟩) ?_ (hK.out _ _ (WrN.refl y) rfl)
    clear hK K dep up val ev out hW hZ
    generalize a.eval = ρ at *
    (simp [execOp, go_sem, *]; done)
  · refine Inv.duty_plain rfl rfl (fun L vs a y hG dep up val ev out K hK => ?_)
    obtain ⟨hW, hZ⟩ := hG
    have L27 := dep 3 (by kernel_rfl)
    have e27 : a.eval (.tmp 27) = .map (some b) := (ev 3 27 L27 (by kernel_rfl)).trans (val 3 L27)
    have L30 := dep 6 (by kernel_rfl)
    have e30 : a.eval (.tmp 30) = .string ⟨x.sv.toArray⟩ := (ev 6 30 L30 (by kernel_rfl)).trans (val 6 L30)
    exact wp_lookV keyedS strV_inj (.tmp 27) (.tmp 30) rfl Tryd.underlying50 zeroC_run (HS1.out.none hW).2.1 e27 x.sv HOK.out e30 (ceV V) B HV1.out HV2.out (hK.out _ _ (WrN.refl y) rfl)
  · refine Inv.duty_plain rfl rfl (fun L vs a y hG dep up val ev out K hK => ?_)
    obtain ⟨hW, hZ⟩ := hG
    have L31 := dep 7 (by kernel_rfl)
    have e31 : a.eval (.tmp 31) = .tuple #[ceV V, .bool B] := (ev 7 31 L31 (by kernel_rfl)).trans (val 7 L31)
    refine Inv.wp_value (v := .tuple #[ceV V, .bool B]) ?_ (hK.out _ _ (WrN.refl y) rfl)
    clear hK K dep up val ev out
    generalize a.eval = ρ at *
    (simp [execOp, go_sem, *]; done)
  · refine Inv.duty_plain rfl rfl (fun L vs a y hG dep up val ev out K hK => ?_)
    obtain ⟨hW, hZ⟩ := hG
    have L23 := dep 8 (by kernel_rfl)
    have e23 : a.eval (.tmp 23) = .tuple #[ceV V, .bool B] := (ev 8 23 L23 (by kernel_rfl)).trans (val 8 L23)
    refine Inv.wp_value (v := ceV V) ?_ (hK.out _ _ (WrN.refl y) rfl)
    clear hK K dep up val ev out
    generalize a.eval = ρ at *
    (simp [execOp, go_sem, *]; done)
  · refine Inv.duty_plain rfl rfl (fun L vs a y hG dep up val ev out K hK => ?_)
    obtain ⟨hW, hZ⟩ := hG
    have L23 := dep 8 (by kernel_rfl)
    have e23 : a.eval (.tmp 23) = .tuple #[ceV V, .bool B] := (ev 8 23 L23 (by kernel_rfl)).trans (val 8 L23)
    refine Inv.wp_value (v := .bool B) ?_ (hK.out _ _ (WrN.refl y) rfl)
    clear hK K dep up val ev out
    generalize a.eval = ρ at *
    (simp [execOp, go_sem, *]; done)
  · refine Inv.duty_plain rfl rfl (fun L vs a y hG dep up val ev out K hK => ?_)
    obtain ⟨hW, hZ⟩ := hG
    exact wp_allocC (cs := ceC zeroCe) zeroC_run rfl (hK.out _ _ (.inl (grown_alloc y _ _)) ⟨_, rfl, hZ, _, CB.new _ _ _, HLZ.out⟩)
  · refine Inv.duty_plain rfl rfl (fun L vs a y hG dep up val ev out K hK => ?_)
    obtain ⟨hW, hZ⟩ := hG
    have L7 := dep 11 (by kernel_rfl)
    have e7 := ev 11 7 L7 (by kernel_rfl)
    have f7 := val 11 L7
    have L32 := dep 9 (by kernel_rfl)
    have e32 : a.eval (.tmp 32) = ceV V := (ev 9 32 L32 (by kernel_rfl)).trans (val 9 L32)
    obtain ⟨g, hv5, hg5, cs5, hc5, hl5⟩ := f7
    exact wp_storeC (off := 0) (p := ceC V) aggC.hi rfl (.tmp 7) (.tmp 32) rfl (ceV V) rfl (cdC_one _ _ _) hc5 HLV.out (by rw [hl5]; omega) (e7.trans hv5) e32 (fun w' h2 g2 => hK.out _ _ (.inr ⟨g, hg5, g2, _, h2, by rw [over_len _ _ (by rw [HLV.out, hl5]; omega), hl5]⟩) trivial)
  · refine Inv.duty_plain rfl rfl (fun L vs a y hG dep up val ev out K hK => ?_)
    obtain ⟨hW, hZ⟩ := hG
    have L33 := dep 10 (by kernel_rfl)
    have e33 : a.eval (.tmp 33) = .bool B := (ev 10 33 L33 (by kernel_rfl)).trans (val 10 L33)
    refine Inv.wp_value (v := .bool B) ?_ (hK.out _ _ (WrN.refl y) rfl)
    clear hK K dep up val ev out
    generalize a.eval = ρ at *
    (simp [execOp, go_sem, *]; done)
  intro vs w' hG hv
  have hZ : vs 13 = .bool B := hv 13 (by omega)
  simp only [Inv.putAll, Act.put, List.setIfInBounds_toArray, List.set_cons_zero, List.set_cons_succ, Nat.zero_add, Nat.reduceAdd]
  rw [hZ]
  clear hv hZ
  have S2 := Lib.hid (HS1.out.none hG.1)
  have B2 := Lib.hid (HB1.out.kept hG.1)
  have G2 := Lib.hid (none_mapC G1.out hG.1)
  have T2 := Lib.hid (HT1.out.none hG.1)
  have SZ2 := Lib.hid (show g0 + 2 ≤ w'.heap.size by have h1 := hG.1.size; have h2 := HSZ1.out; have h3 := HWB.out; omega)
  have TK7 := Lib.hid True.intro
  clear hG
  have q0 : w'.cell? ⟨c, 0, none⟩ = some (.map (some b)) := S2.out.1.at_ rfl
  cases hb : B with
  | true =>
    have HP2 := Lib.hid (show ∀ A' c', PutC M x now (withoutM M1 x.sv ++ [(x.sv, (x, A', c'))]) 0 from fun A' c' => HP.out _ _ (by rw [if_neg (fun h => h.1 (hBk.1 hb))]; exact ⟨A', c', rfl, rfl⟩))
    clear hBk hb
    go_wp2_with (first
      | (have hx := TK7; refine wpList_loadC (off := 0) (p := cdC x A c0) aggC rfl (.tmp 4) rfl B2.out (take_all HLC.out) (by rw [HLC.out]; omega) (by first | rfl | go_simp) ?_; clear hx TK7)
      | (go_at_call 20; refine (capart_any x A c0 HO.out _ T2.out.1).mono ?_; rintro r w3 ⟨A', c', rfl, hr3, hl3, g3⟩; have S3 := Lib.hid (S2.out.none g3); have B3 := Lib.hid (B2.out.kept g3); have G3 := Lib.hid (grown_trans' G2.out (grown_some g3 b)); have R3 := Lib.hid hr3; have L3 := Lib.hid hl3; have TK8 := Lib.hid True.intro; clear hr3 hl3 g3)
      | (have hx := TK8; refine wpList_storeC (off := 0) (p := cdC x A' c') aggC.hi rfl (.tmp 4) (.tmp 45) rfl (.agg (cdC x A' c').toArray) rfl (cdC_one _ _ _) B3.out (HL2.out A' c') (by rw [HLC.out]; omega) (by first | rfl | go_simp) (by first | rfl | go_simp) ?_; clear hx TK8; intro w4 h4 g4; rw [over_all _ _ (Nat.le_of_eq (by rw [HLC.out, HL2.out]))] at h4; have B4 := Lib.hid h4; have S4 := Lib.hid (S3.out.farC g4 HGB.out.1 HGB.out.2 HBW.out (Nat.le_refl _)); have G4 := Lib.hid (grown_new G3.out g4 (Nat.le_of_eq HG0.out)); have R4 := Lib.hid (R3.out.apartC g4 (fun a ha => .inr (fun e => by have h1 := L3.out a ha; have h2 := SZ2.out; injection e with e; omega))); clear h4 g4))
    have q5 : w4.cell? ⟨c, 0, none⟩ = some (.map (some b)) := S4.out.1.at_ rfl
    have q6 : w4.cell? ⟨g0, 2, none⟩ = some (.string ⟨x.sv.toArray⟩) := B4.out.at_ (cdC_sv x A' c')
    have S5 := Lib.hid (show KS w4.drew c b M1 from S4.out)
    go_still_tail 8, (by kernel_rfl)
    refine wpStill_step (fun KK hK => ?_)
    refine still_loadC aggC (.tmp 4) rfl B4.out (take_all (HL2.out A' c')) (by rw [HL2.out]; omega) rfl (hK _ ?_)
    clear hK KK
    repeat still_step
    refine wpStill_nil ?_
    change wpList _ _ _ _ _ w4.drew
    go_wp2_with (refine wpList_putM keyedS strV_inj rfl _ _ _ rfl Tryd.underlying50 S5.out.2.1 (by have := HLN.out; unfold maxLen; omega) rfl x.sv (x, A', c') HOK.out rfl rfl ?_; intro w5 hM5 hT5)
    go_ret
    refine ⟨_, 0, rfl, HP2.out A' c', ⟨S5.out.1.grown hT5.grown S5.out.2.2.1, hM5, S5.out.2.2.1, fun p hp => ?_⟩, grown_trans' (grown_drew G4.out) hT5.grown, fun q hq => ?_⟩
    rotate_left
    · rcases List.mem_append.1 hq with hq | hq
      · exact .inl (live_sub q (by rw [← HM1E.out]; exact (List.mem_filter.1 hq).1))
      · rw [List.mem_singleton.1 hq]
        refine .inr (fun a ha => ?_)
        have h1 := L3.out a ha
        have h2 := SZ2.out
        have h3 := HG0.out
        omega
    rcases List.mem_append.1 hp with hp | hp
    · exact (S5.out.2.2.2.map hT5.grown (fun q hq => (List.mem_filter.1 hq).1)) p hp
    · rw [List.mem_singleton.1 hp]
      refine ⟨rfl, HO.out, TBk.map (w := w4.drew) ⟨R4.out, fun a ha => .inr (fun e => ?_)⟩ hT5.grown⟩
      have h1 := L3.out a ha
      have h2 := SZ2.out
      have h3 := HLB.out
      omega
  | false =>
    have hin : x.sv ∉ keysM M1 := fun h => by rw [hBk.2 h] at hb; cases hb
    by_cases h8 : 8 ≤ M1.length
    · have HP2 := Lib.hid (show PutC M x now M1 2 from HP.out _ _ (by rw [if_pos ⟨hin, h8⟩]; exact ⟨rfl, rfl⟩))
      have d1 : decide ((8 : Int) ≤ (M1.length : Int)) = true := decide_eq_true (by omega)
      clear hBk hb hin
      go_wp2_with (refine wpList_lenMg (by first | rfl | go_simp) _ rfl Tryd.underlying50 S2.out.2.1 rfl ?_)
      go_ret
      exact ⟨_, 2, rfl, HP2.out, S2.out, G2.out, fun q hq => .inl (live_sub q (by rw [← HM1E.out]; exact hq))⟩
    · have HP2 := Lib.hid (show ∀ A' c', PutC M x now (withoutM M1 x.sv ++ [(x.sv, (x, A', c'))]) 0 from fun A' c' => HP.out _ _ (by rw [if_neg (fun h => h8 h.2)]; exact ⟨A', c', rfl, rfl⟩))
      have d1 : decide ((8 : Int) ≤ (M1.length : Int)) = false := decide_eq_false (by omega)
      clear hBk hb hin
      go_wp2_with (first
        | (refine wpList_lenMg (by first | rfl | go_simp) _ rfl Tryd.underlying50 S2.out.2.1 rfl ?_)
        | (have hx := TK7; refine wpList_loadC (off := 0) (p := cdC x A c0) aggC rfl (.tmp 4) rfl B2.out (take_all HLC.out) (by rw [HLC.out]; omega) (by first | rfl | go_simp) ?_; clear hx TK7)
        | (go_at_call 20; refine (capart_any x A c0 HO.out _ T2.out.1).mono ?_; rintro r w3 ⟨A', c', rfl, hr3, hl3, g3⟩; have S3 := Lib.hid (S2.out.none g3); have B3 := Lib.hid (B2.out.kept g3); have G3 := Lib.hid (grown_trans' G2.out (grown_some g3 b)); have R3 := Lib.hid hr3; have L3 := Lib.hid hl3; have TK8 := Lib.hid True.intro; clear hr3 hl3 g3)
        | (have hx := TK8; refine wpList_storeC (off := 0) (p := cdC x A' c') aggC.hi rfl (.tmp 4) (.tmp 45) rfl (.agg (cdC x A' c').toArray) rfl (cdC_one _ _ _) B3.out (HL2.out A' c') (by rw [HLC.out]; omega) (by first | rfl | go_simp) (by first | rfl | go_simp) ?_; clear hx TK8; intro w4 h4 g4; rw [over_all _ _ (Nat.le_of_eq (by rw [HLC.out, HL2.out]))] at h4; have B4 := Lib.hid h4; have S4 := Lib.hid (S3.out.farC g4 HGB.out.1 HGB.out.2 HBW.out (Nat.le_refl _)); have G4 := Lib.hid (grown_new G3.out g4 (Nat.le_of_eq HG0.out)); have R4 := Lib.hid (R3.out.apartC g4 (fun a ha => .inr (fun e => by have h1 := L3.out a ha; have h2 := SZ2.out; injection e with e; omega))); clear h4 g4))
      have q5 : w4.cell? ⟨c, 0, none⟩ = some (.map (some b)) := S4.out.1.at_ rfl
      have q6 : w4.cell? ⟨g0, 2, none⟩ = some (.string ⟨x.sv.toArray⟩) := B4.out.at_ (cdC_sv x A' c')
      have S5 := Lib.hid (show KS w4.drew c b M1 from S4.out)
      go_still_tail 8, (by kernel_rfl)
      refine wpStill_step (fun KK hK => ?_)
      refine still_loadC aggC (.tmp 4) rfl B4.out (take_all (HL2.out A' c')) (by rw [HL2.out]; omega) rfl (hK _ ?_)
      clear hK KK
      repeat still_step
      refine wpStill_nil ?_
      change wpList _ _ _ _ _ w4.drew
      go_wp2_with (refine wpList_putM keyedS strV_inj rfl _ _ _ rfl Tryd.underlying50 S5.out.2.1 (by have := HLN.out; unfold maxLen; omega) rfl x.sv (x, A', c') HOK.out rfl rfl ?_; intro w5 hM5 hT5)
      go_ret
      refine ⟨_, 0, rfl, HP2.out A' c', ⟨S5.out.1.grown hT5.grown S5.out.2.2.1, hM5, S5.out.2.2.1, fun p hp => ?_⟩, grown_trans' (grown_drew G4.out) hT5.grown, fun q hq => ?_⟩
      rotate_left
      · rcases List.mem_append.1 hq with hq | hq
        · exact .inl (live_sub q (by rw [← HM1E.out]; exact (List.mem_filter.1 hq).1))
        · rw [List.mem_singleton.1 hq]
          refine .inr (fun a ha => ?_)
          have h1 := L3.out a ha
          have h2 := SZ2.out
          have h3 := HG0.out
          omega
      rcases List.mem_append.1 hp with hp | hp
      · exact (S5.out.2.2.2.map hT5.grown (fun q hq => (List.mem_filter.1 hq).1)) p hp
      · rw [List.mem_singleton.1 hp]
        refine ⟨rfl, HO.out, TBk.map (w := w4.drew) ⟨R4.out, fun a ha => .inr (fun e => ?_)⟩ hT5.grown⟩
        have h1 := L3.out a ha
        have h2 := SZ2.out
        have h3 := HLB.out
        omega

theorem cput_two (x : Cd) (A : Option Addr) (c0 : Nat) (h : cdOk x) (w : World) (hM : ML w) (hT : RB w w.heap.size A x.tk c0) (c b : Nat) (hTb : ∀ a, A = some a → x.tk = [] ∨ a.block ≠ b) (M : Cm) (hS : KS w c b M) (hlen : M.length ≤ 1000000) (now : Int) :
    Calls Tryd.prog 9 #[.pointer (some ⟨c, 0, none⟩), .agg (cdC x A c0).toArray, .int .i64 now] w (PutR2 w c b M x now) := by
  by_cases hr : rightC x = false ∨ x.en < now
  · exact cput_early x A c0 h w hM c b M hS now hr
  · have hr1 : rightC x = true := by
      cases h : rightC x with
      | true => rfl
      | false => exact absurd (Or.inl h) hr
    exact cput_late x A c0 h w hM hT c b hTb M hS hlen now hr1 (fun h => hr (Or.inr h))
theorem cput_any (x : Cd) (A : Option Addr) (c0 : Nat) (h : cdOk x) (w : World) (hM : ML w) (hT : RB w w.heap.size A x.tk c0) (c b : Nat) (hTb : ∀ a, A = some a → x.tk = [] ∨ a.block ≠ b) (M : Cm) (hS : KS w c b M) (hlen : M.length ≤ 1000000) (now : Int) :
    Calls Tryd.prog 9 #[.pointer (some ⟨c, 0, none⟩), .agg (cdC x A c0).toArray, .int .i64 now] w (PutRC w c b M x now) :=
  (cput_two x A c0 h w hM hT c b hTb M hS hlen now).mono fun _ _ ⟨M', n, h1, h2, h3, h4, _⟩ => ⟨M', n, h1, h2, h3, h4⟩
/-- A block that isn't the map's, nor a ticket's, is written. -/
theorem KS.farD {w w' : World} {c b g : Nat} {M : Cm} (h : KS w c b M) (hg : w.grownBy w' (some g)) (h1 : g ≠ c) (h2 : g ≠ b) (h3 : ∀ q ∈ M, ∀ a, q.2.2.1 = some a → g < a.block) : KS w' c b M :=
  ⟨h.1.grown hg (fun e => h1 e.symm), h.2.1.kept hg (fun e => h2 (by injection e with e; exact e.symm)), h.2.2.1, fun p hp => ⟨(h.2.2.2 p hp).1, (h.2.2.2 p hp).2.1,
    ⟨(h.2.2.2 p hp).2.2.1.apartC hg (fun a ha => .inr (fun e => by have := h3 p hp a ha; injection e with e; omega)), (h.2.2.2 p hp).2.2.2⟩⟩⟩
end Go.Proofs.YtfpcabfpnekejaaDoor
