/- The walks of Same and of CacheFresh. -/
import Derived.Test.YtfpcabfpnekejaaDoorCag
import Derived.Test.YtfpcabfpnekejaaDoorSrt
import Derived.Sort.Walk0
namespace Go.Proofs.YtfpcabfpnekejaaDoor
open Go.RowKit Go.Maps Go.WideMaps

theorem cput_at2 (x : Cd) (A : Option Addr) (c0 : Nat) (h : cdOk x) (w w0 : World) (hM : ML w0) (hw : w0.grownBy w none) (hT : RB w w.heap.size A x.tk c0) (c b : Nat) (hTb : ∀ a, A = some a → x.tk = [] ∨ a.block ≠ b) (M : Cm) (hS : KS w c b M) (hlen : M.length ≤ 1000000) (now : Int) (C : Array Value) (hC : C = (cdC x A c0).toArray) :
    Calls Tryd.prog 9 #[.pointer (some ⟨c, 0, none⟩), .agg C, .int .i64 now] w (PutR2 w c b M x now) := by
  subst hC
  exact cput_two x A c0 h w (hM.below (below_of_none hw)) hT c b hTb M hS hlen now
def sameC (x y : Cd) : Bool := decide (x.cl = y.cl) && (decide (x.tk = y.tk) && eqGr x y)
theorem sameC_refl (x : Cd) : sameC x x = true := by simp [sameC, eqGr]
set_option maxRecDepth 10000 in
set_option maxHeartbeats 2000000 in
theorem csame_any (x y : Cd) (A A' : Option Addr) (c c' : Nat) (hx : cdW x) (hy : cdW y) (w : World) (hA : RB w w.heap.size A x.tk c) (hA' : RB w w.heap.size A' y.tk c') :
    Calls Tryd.prog 14 #[.agg (cdC x A c).toArray, .agg (cdC y A' c').toArray] w fun e w' => e = .returned (.bool (sameC x y)) ∧ w.grownBy w' none := by
  have BX := Lib.hid ((CB.new w 38 (cdC x A c)).alloc (.cells (cdC y A' c').toArray 38))
  have BY := Lib.hid (CB.new1 w (.cells (cdC x A c).toArray 38) 38 (cdC y A' c'))
  have G0 := Lib.hid (grown_trans' (grown_alloc w (.cells (cdC x A c).toArray 38) none) (grown_alloc _ (.cells (cdC y A' c').toArray 38) none))
  have HX := Lib.hid (cdC_length hx.lk A c)
  have HY := Lib.hid (cdC_length hy.lk A' c')
  have GX := Lib.hid (cdC_gr hx.lk A c)
  have GY := Lib.hid (cdC_gr hy.lk A' c')
  have x0 := BX.out.at_ (cdC_cl x A c)
  have y0 := BY.out.at_ (cdC_cl y A' c')
  have x1 := BX.out.at_ (cdC_tk x A c)
  have y1 := BY.out.at_ (cdC_tk y A' c')
  have s1 := run_strB byteT Tryd.underlying9 (hA.row_ G0.out)
  have s2 := run_strB byteT Tryd.underlying9 (hA'.row_ G0.out)
  have HQ := Lib.hid (run_eqGr x y hx hy)
  obtain ⟨b1, hb1⟩ : ∃ b, b = decide (x.cl = y.cl) := ⟨_, rfl⟩
  obtain ⟨b2, hb2⟩ : ∃ b, b = decide (x.tk = y.tk) := ⟨_, rfl⟩
  have HS := Lib.hid (show sameC x y = (b1 && (b2 && eqGr x y)) by rw [hb1, hb2]; rfl)
  have e1 : (x.cl == y.cl) = b1 := by rw [hb1, Bool.eq_iff_iff, beq_iff_eq, decide_eq_true_iff]
  have e2 : (x.tk == y.tk) = b2 := by rw [hb2, Bool.eq_iff_iff, beq_iff_eq, decide_eq_true_iff]
  clear hb1 hb2 hx hy hA hA'
  rw [HS.out]
  have TK0 := Lib.hid True.intro
  cases b1 with
  | false =>
    go_enter Tryd.func14, Tryd.ntmps14
    go_wp2
    go_ret
    exact ⟨rfl, G0.out⟩
  | true =>
    cases b2 with
    | false =>
      go_enter Tryd.func14, Tryd.ntmps14
      go_wp2
      go_ret
      exact ⟨rfl, G0.out⟩
    | true =>
      have heq := HQ.out
      go_enter Tryd.func14, Tryd.ntmps14
      go_wp2_with (first
        | (have hx := TK0; refine wpList_loadCg (off := 2) (p := grC x) aggGc (by first | rfl | go_simp) (.tmp 20) rfl BX.out GX.out (by rw [HX.out]; omega) (by first | rfl | go_simp) ?_; clear hx TK0; have TK1 := Lib.hid True.intro)
        | (have hx := TK1; refine wpList_loadCg (off := 2) (p := grC y) aggGc (by first | rfl | go_simp) (.tmp 22) rfl BY.out GY.out (by rw [HY.out]; omega) (by first | rfl | go_simp) ?_; clear hx TK1))
      go_ret
      exact ⟨by simp, G0.out⟩

/-- What is known of the memory and of the last that was put for a server. -/
def RelFr (s : List UInt8) (M : Cm) (any : Bool) (x : Cd) : Prop := M.length ≤ 8 ∧ ∀ p ∈ M, p.1 = s → any = true ∧ p.2.1 = x
theorem live_len {M : Cm} {now : Int} : (liveM M now).length ≤ M.length := List.length_filter_le _ _
theorem PutC.cases {M M' : Cm} {x : Cd} {now n : Int} (h : PutC M x now M' n) : (n ≠ 0 ∧ (M' = M ∨ M' = liveM M now)) ∨ (n = 0 ∧ ∃ A' c', M' = withoutM (liveM M now) x.sv ++ [(x.sv, (x, A', c'))] ∧ (x.sv ∈ keysM (liveM M now) ∨ (liveM M now).length < 8)) := by
  unfold PutC at h
  split at h
  · exact .inl ⟨by rw [h.2]; omega, .inl h.1⟩
  · split at h
    · exact .inl ⟨by rw [h.2]; omega, .inl h.1⟩
    · split at h
      · exact .inl ⟨by rw [h.2]; omega, .inr h.1⟩
      · rename_i h3
        obtain ⟨A', c', h1, h2⟩ := h
        refine .inr ⟨h2, A', c', h1, ?_⟩
        by_cases hin : x.sv ∈ keysM (liveM M now)
        · exact .inl hin
        · exact .inr (by
            have : ¬ 8 ≤ (liveM M now).length := fun h8 => h3 ⟨hin, h8⟩
            omega)
theorem PutC.small {M M' : Cm} {x : Cd} {now n : Int} (h : PutC M x now M' n) (hd : (keysM M).Nodup) (h8 : M.length ≤ 8) : M'.length ≤ 8 := by
  have hl := live_len (M := M) (now := now)
  rcases h.cases with ⟨_, rfl | rfl⟩ | ⟨_, A', c', rfl, hk⟩
  · exact h8
  · omega
  · rw [List.length_append, List.length_singleton]
    rcases hk with hk | hk
    · have hnd : (keysM (liveM M now)).Nodup := List.Sublist.nodup (List.filter_sublist.map _) hd
      have hpw : ∀ (L : Cm), (keysM L).Nodup → x.sv ∈ keysM L → (withoutM L x.sv).length + 1 = L.length := by
        intro L
        induction L with
        | nil => intro _ h; cases h
        | cons p L ih =>
          intro hd h
          unfold keysM at hd h
          rw [List.map_cons, List.nodup_cons] at hd
          rw [List.map_cons, List.mem_cons] at h
          unfold withoutM
          by_cases e : p.1 = x.sv
          · rw [List.filter_cons, if_neg (by simp [e])]
            have : L.filter (fun q => decide (q.1 ≠ x.sv)) = L := List.filter_eq_self.2 fun q hq => by
              refine decide_eq_true fun e2 => hd.1 ?_
              rw [e, ← e2]
              exact List.mem_map.2 ⟨q, hq, rfl⟩
            rw [this, List.length_cons]
          · rw [List.filter_cons, if_pos (by simp [e]), List.length_cons, List.length_cons]
            have := ih hd.2 (h.resolve_left (fun h2 => e h2.symm))
            unfold withoutM at this
            omega
      have := hpw _ hnd hk
      omega
    · have : (withoutM (liveM M now) x.sv).length ≤ (liveM M now).length := List.length_filter_le _ _
      omega
theorem RelFr.other {s : List UInt8} {M M' : Cm} {any : Bool} {x y : Cd} {now n : Int} (h : RelFr s M any x) (hd : (keysM M).Nodup) (hp : PutC M y now M' n) (hn : n ≠ 0 ∨ y.sv ≠ s) : RelFr s M' any x := by
  refine ⟨hp.small hd h.1, fun p hpm e => ?_⟩
  rcases hp.cases with ⟨_, rfl | rfl⟩ | ⟨h0, A', c', rfl, _⟩
  · exact h.2 p hpm e
  · exact h.2 p (live_sub _ hpm) e
  · rcases List.mem_append.1 hpm with hpm | hpm
    · exact h.2 p (live_sub _ (List.mem_filter.1 hpm).1) e
    · rw [List.mem_singleton.1 hpm] at e
      exact absurd e (hn.resolve_left (fun h => h h0))
theorem RelFr.this {s : List UInt8} {M M' : Cm} {any : Bool} {x y : Cd} {now n : Int} (h : RelFr s M any x) (hd : (keysM M).Nodup) (hp : PutC M y now M' n) (hn : n = 0) (hs : y.sv = s) : RelFr s M' true y := by
  refine ⟨hp.small hd h.1, fun p hpm e => ?_⟩
  rcases hp.cases with ⟨h0, _⟩ | ⟨h0, A', c', rfl, _⟩
  · exact absurd hn h0
  · rcases List.mem_append.1 hpm with hpm | hpm
    · have := (List.mem_filter.1 hpm).2
      exact absurd (e.trans hs.symm) (by simpa using this)
    · rw [List.mem_singleton.1 hpm]
      exact ⟨rfl, rfl⟩

end Go.Proofs.YtfpcabfpnekejaaDoor
namespace Go.Proofs.YtfpcabfpnekejaaDoor
open Go.RowKit Go.Maps Go.WideMaps

/-- The server of a ticket. -/
def nmC (p : Ce) : List UInt8 := p.1.sv
/-- The document's tickets are those of the code's map, and rise by their servers. -/
def RelC (M : Cm) (E : List Ce) : Prop := SortN nmC E ∧ (E.map (·.1)).Perm (M.map fun p => p.2.1)
def NamedC (M : Cm) : Prop := ∀ p ∈ M, p.1 = p.2.1.sv
theorem CmOk.named {w : World} {b : Nat} {M : Cm} (h : CmOk w b M) : NamedC M := fun p hp => (h p hp).1
def liveE (E : List Ce) (now : Int) : List Ce := E.filter fun p => !decide (p.1.en < now)
/-- What the document's Put does. -/
def PutD (E : List Ce) (x : Ce) (now : Int) (out : List Ce) (k : Int) : Prop :=
  (rightC x.1 = false ∧ out = E ∧ k = 1) ∨ (rightC x.1 = true ∧ x.1.en < now ∧ out = E ∧ k = 63) ∨
  (rightC x.1 = true ∧ ¬ x.1.en < now ∧ ((∃ i, atS nmC (liveE E now) x.1.sv = some i ∧ out = (liveE E now).set i x ∧ k = 0) ∨ (atS nmC (liveE E now) x.1.sv = none ∧ 8 ≤ (liveE E now).length ∧ out = liveE E now ∧ k = 2) ∨
    (atS nmC (liveE E now) x.1.sv = none ∧ (liveE E now).length < 8 ∧ InsR nmC (liveE E now) x out ∧ k = 0)))
def dropD (E : List Ce) (n : List UInt8) : List Ce × Bool := match atS nmC E n with
  | some i => (E.take i ++ E.drop (i + 1), true)
  | none => (E, false)
/-- What the document's Find finds. -/
def findD (E : List Ce) (n : List UInt8) (now : Int) : Option Ce := match atS nmC E n with
  | some i => if (E.getD i zeroCe).1.en < now then none else some (E.getD i zeroCe)
  | none => none
section
variable {M M' : Cm} {E out : List Ce} {x : Ce} {n : List UInt8} {k m : Int} {now : Int}
theorem RelC.nil_ : RelC [] [] := ⟨List.Pairwise.nil, List.Perm.nil⟩
theorem RelC.len (h : RelC M E) : M.length = E.length := by have := h.2.length_eq; rw [List.length_map, List.length_map] at this; exact this.symm
theorem RelC.of (h : RelC M E) (hok : NamedC M) (hx : x ∈ E) : ∃ A c, (x.1.sv, (x.1, A, c)) ∈ M := by
  obtain ⟨⟨a, d, A, c⟩, hm, he⟩ := List.mem_map.1 (h.2.mem_iff.1 (List.mem_map_of_mem (f := fun p : Ce => p.1) hx))
  have h1 := hok _ hm
  simp only at h1 he
  subst he
  exact ⟨A, c, by rw [← h1]; exact hm⟩
theorem RelC.to (h : RelC M E) (hok : NamedC M) {p : Ce} (hm : (n, p) ∈ M) : ∃ y ∈ E, y.1 = p.1 ∧ y.1.sv = n := by
  obtain ⟨y, hy, he⟩ := List.mem_map.1 (h.2.mem_iff.2 (List.mem_map_of_mem (f := fun p : List UInt8 × Ce => p.2.1) hm))
  have h1 := hok _ hm
  simp only at h1 he
  exact ⟨y, hy, he, by rw [he, ← h1]⟩
theorem RelC.key (h : RelC M E) (hok : NamedC M) : n ∈ keysM M ↔ ∃ i, atS nmC E n = some i := by
  rw [mem_keysM]
  constructor
  · rintro ⟨v, hv⟩
    obtain ⟨y, hy, -, h2⟩ := h.to hok hv
    cases ha : atS nmC E n with
    | some i => exact ⟨i, rfl⟩
    | none => exact absurd h2 (atS_none.1 ha y hy)
  · rintro ⟨i, hi⟩
    obtain ⟨y, hy, hn, _⟩ := atS_some hi
    obtain ⟨A, c, hm⟩ := h.of hok (List.mem_of_getElem? hy)
    exact ⟨_, by rw [← (show y.1.sv = n from hn)]; exact hm⟩
theorem RelC.filt (h : RelC M E) (f : Cd → Bool) : RelC (M.filter fun p => f p.2.1) (E.filter fun p => f p.1) := by
  refine ⟨h.1.filter _, ?_⟩
  have h2 := h.2.filter f
  rw [List.filter_map, List.filter_map] at h2
  exact h2
theorem RelC.live (h : RelC M E) (now : Int) : RelC (liveM M now) (liveE E now) := h.filt fun c => !decide (c.en < now)
theorem NamedC.live (h : NamedC M) (now : Int) : NamedC (liveM M now) := fun p hp => h p (List.mem_filter.1 hp).1
theorem RelC.without (h : RelC M E) (hok : NamedC M) (n : List UInt8) : RelC (withoutM M n) (E.filter fun x => decide (nmC x ≠ n)) := by
  have h2 := h.filt fun c => decide (c.sv ≠ n)
  have h3 : withoutM M n = M.filter fun p => decide (p.2.1.sv ≠ n) := by
    unfold withoutM
    refine List.filter_congr fun p hp => ?_
    rw [hok p hp]
  rw [h3]
  exact h2
theorem RelC.drop (h : RelC M E) (hok : NamedC M) : RelC (withoutM M n) (dropD E n).1 ∧ ((dropD E n).2 = true ↔ n ∈ keysM M) := by
  have hw := h.without hok n
  unfold dropD
  cases ha : atS nmC E n with
  | some i =>
    simp only
    rw [h.1.cut ha] at hw
    exact ⟨hw, ⟨fun _ => (h.key hok).2 ⟨i, ha⟩, fun _ => trivial⟩⟩
  | none =>
    simp only
    rw [SortN.cut_none ha] at hw
    exact ⟨hw, fun h1 => (by first | cases h1 | exact h1.elim), fun h1 => by obtain ⟨i, hi⟩ := (h.key hok).1 h1; rw [ha] at hi; cases hi⟩
theorem RelC.put (h : RelC M E) (hok : NamedC M) (hp : PutD E x now out k) (hc : PutC M x.1 now M' m) : RelC M' out ∧ m = k := by
  unfold PutC at hc
  rcases hp with ⟨hr, rfl, rfl⟩ | ⟨hr, ho, rfl, rfl⟩ | ⟨hr, ho, hp⟩
  · rw [if_pos hr] at hc
    exact ⟨by rw [hc.1]; exact h, hc.2⟩
  · rw [if_neg (by rw [hr]; simp), if_pos ho] at hc
    exact ⟨by rw [hc.1]; exact h, hc.2⟩
  rw [if_neg (by rw [hr]; simp), if_neg ho] at hc
  have hl := h.live now
  have hkl := hok.live now
  have hw := hl.without hkl x.1.sv
  rcases hp with ⟨i, ha, rfl, rfl⟩ | ⟨ha, h8, rfl, rfl⟩ | ⟨ha, h8, hi, rfl⟩
  · rw [if_neg (fun hh => hh.1 ((hl.key hkl).2 ⟨i, ha⟩))] at hc
    obtain ⟨A', c', rfl, rfl⟩ := hc
    refine ⟨⟨hl.1.set ha rfl, ?_⟩, rfl⟩
    rw [List.map_append, List.map_cons, List.map_nil]
    have h3 := (hl.1.set_perm (e := x) ha).map (fun p : Ce => p.1)
    rw [List.map_append, List.map_cons, List.map_nil] at h3
    exact h3.trans (hw.2.append_right _)
  · rw [if_pos ⟨(fun hh => by obtain ⟨i, hi⟩ := (hl.key hkl).1 hh; rw [ha] at hi; cases hi), by rw [hl.len]; exact h8⟩] at hc
    exact ⟨by rw [hc.1]; exact hl, hc.2⟩
  · rw [if_neg (fun hh => by have := hh.2; rw [hl.len] at this; omega)] at hc
    obtain ⟨A', c', rfl, rfl⟩ := hc
    rw [SortN.cut_none ha] at hw
    refine ⟨⟨hi.sorted hl.1 (fun y hy => atS_none.1 ha y hy), ?_⟩, rfl⟩
    rw [List.map_append, List.map_cons, List.map_nil]
    have h3 := hi.perm.map (fun p : Ce => p.1)
    rw [List.map_append, List.map_cons, List.map_nil] at h3
    exact h3.trans (hw.2.append_right _)
theorem RelC.found (h : RelC M E) (hok : NamedC M) (hf : findD E n now = some x) : ∃ A c, (n, (x.1, A, c)) ∈ M ∧ ¬ x.1.en < now ∧ x ∈ E := by
  unfold findD at hf
  cases ha : atS nmC E n with
  | none => rw [ha] at hf; cases hf
  | some i =>
    obtain ⟨y, hy, hn, _⟩ := atS_some ha
    rw [ha] at hf
    simp only at hf
    have hg : E.getD i zeroCe = y := by rw [List.getD_eq_getElem?_getD, hy]; rfl
    rw [hg] at hf
    split at hf
    · cases hf
    · injection hf with hf
      subst hf
      obtain ⟨A, c, hm⟩ := h.of hok (List.mem_of_getElem? hy)
      exact ⟨A, c, by rw [← (show y.1.sv = n from hn)]; exact hm, by assumption, List.mem_of_getElem? hy⟩
theorem RelC.nofind (h : RelC M E) (hok : NamedC M) (hf : findD E n now = none) : ∀ p, (n, p) ∈ M → decide (p.1.en < now) = true := by
  intro p hp
  obtain ⟨y, hy, h1, h2⟩ := h.to hok hp
  unfold findD at hf
  cases ha : atS nmC E n with
  | none => exact absurd h2 (atS_none.1 ha y hy)
  | some i =>
    obtain ⟨z, hz, hn, _⟩ := atS_some ha
    have hg : E.getD i zeroCe = z := by rw [List.getD_eq_getElem?_getD, hz]; rfl
    have hyz : y = z := by
      have hnd := h.1.nodup
      obtain ⟨j, hj, rfl⟩ := List.getElem_of_mem hy
      obtain ⟨hi, rfl⟩ := List.getElem?_eq_some_iff.1 hz
      have hij : j = i := (List.getElem_inj (h₀ := by rw [List.length_map]; exact hj) (h₁ := by rw [List.length_map]; exact hi) hnd).1 (by rw [List.getElem_map, List.getElem_map]; exact h2.trans hn.symm)
      subst hij
      rfl
    rw [ha] at hf
    simp only at hf
    rw [hg] at hf
    subst hyz
    split at hf
    · rw [← h1]; exact decide_eq_true (by assumption)
    · cases hf
theorem RelC.list (h : RelC M E) (hok : NamedC M) {ks : List (List UInt8)} (hl : ListedM M ks) : ks = E.map nmC := by
  have hp : (E.map nmC).Perm (keysM M) := by
    have h2 := h.2.map (fun c : Cd => c.sv)
    rw [List.map_map, List.map_map] at h2
    refine h2.trans (List.Perm.of_eq ?_)
    unfold keysM
    exact List.map_congr_left fun p hp => (hok p hp).symm
  refine List.Perm.eq_of_pairwise (le := fun a b => a ≤ b) (fun a b _ _ h1 h3 => List.le_antisymm h1 h3) hl.2 (h.1.imp fun h => List.le_of_lt h) (hl.1.trans hp.symm)
end
end Go.Proofs.YtfpcabfpnekejaaDoor
