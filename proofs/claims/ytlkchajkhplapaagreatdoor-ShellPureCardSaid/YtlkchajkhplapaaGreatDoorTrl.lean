/- find. -/
import Derived.Test.YtlkchajkhplapaaGreatDoorTri
import Derived.Deep.QuietTactic
import Derived.StillTailTactics
import Derived.Lib.SliceRun
namespace Go.Proofs.YtlkchajkhplapaaGreatDoor
open Go.RowKit Go.Maps Go.WideMaps

/-- What find answers: nothing found is an answer of its own. -/
def findR (M : List (List UInt8 × Nd)) (who : ByteArray) (p : List UInt8) : Option Nd × Int :=
  if pathOk p = false then (none, 30) else if comeE M who (aheads p) = 0 then (match M.lookup p with | none => (none, 110) | some n => (some n, 0)) else (none, comeE M who (aheads p))
set_option maxHeartbeats 1000000 in
theorem find_any (w : World) (tb mb : Nat) (M : List (List UInt8 × Nd)) (hT : TR w tb mb M) (who s : ByteArray) (p : List UInt8) (hp : s.data.toList = p) (hs : p.length ≤ 100000) :
    Calls Tryz.prog 58 #[.pointer (some ⟨tb, 0, none⟩), .string who, .string s] w fun e w' => e = .returned (.tuple #[ptrOf (findR M who p).1, .int .i64 (findR M who p).2]) ∧ Below w.heap.size w w' := by
  have CA := Lib.hid (come_any w tb mb M hT who s p hp hs)
  clear hT hp hs
  have key : ∀ (u : Value) (c : Int), comeR M who p = (u, c) → ((u = .pointer none ∧ c ≠ 0 ∧ findR M who p = (none, c)) ∨ (u = .pointer none ∧ c = 0 ∧ findR M who p = (none, 110)) ∨ (∃ n, u = vN n ∧ c = 0 ∧ findR M who p = (some n, 0))) := by
    intro u c h
    unfold comeR at h
    unfold findR
    by_cases h1 : pathOk p = false
    · rw [if_pos h1] at h ⊢
      cases h
      exact .inl ⟨rfl, by decide, rfl⟩
    · rw [if_neg h1] at h ⊢
      by_cases h2 : comeE M who (aheads p) = 0
      · rw [if_pos h2] at h ⊢
        cases hl : M.lookup p with
        | none => rw [hl] at h; cases h; exact .inr (.inl ⟨rfl, rfl, rfl⟩)
        | some n => rw [hl] at h; cases h; exact .inr (.inr ⟨n, rfl, rfl, rfl⟩)
      · rw [if_neg h2] at h ⊢
        cases h
        exact .inl ⟨rfl, h2, rfl⟩
  obtain ⟨⟨u, c⟩, hR⟩ : ∃ x, comeR M who p = x := ⟨_, rfl⟩
  have CB' := CA.out
  rw [hR] at CB'
  have CC := Lib.hid CB'
  clear CA CB'
  rcases key u c hR with ⟨rfl, hc, hF⟩ | ⟨rfl, rfl, hF⟩ | ⟨n, rfl, rfl, hF⟩
  · have hcq : (c == 0) = false := beq_eq_false_iff_ne.2 hc
    rw [hF]
    clear key hR hF
    go_enter Tryz.func58, Tryz.ntmps58
    go_wp2_with (go_at_call 50; refine CC.out.mono ?_; rintro e w1 ⟨rfl, hb1⟩)
    go_ret2
    exact ⟨rfl, hb1⟩
  · rw [hF]
    clear key hR hF
    go_enter Tryz.func58, Tryz.ntmps58
    go_wp2_with (go_at_call 50; refine CC.out.mono ?_; rintro e w1 ⟨rfl, hb1⟩)
    go_ret2
    exact ⟨rfl, hb1⟩
  · rw [hF]
    clear key hR hF
    rw [vN] at CC
    go_enter Tryz.func58, Tryz.ntmps58
    go_wp2_with (go_at_call 50; refine CC.out.mono ?_; rintro e w1 ⟨rfl, hb1⟩)
    go_ret2
    exact ⟨rfl, hb1⟩
end Go.Proofs.YtlkchajkhplapaaGreatDoor
namespace Go.Proofs.YtlkchajkhplapaaGreatDoor
open Go.RowKit Go.Maps Go.WideMaps

set_option maxHeartbeats 2000000 in
theorem mayChange_any (w : World) (tb mb : Nat) (M : List (List UInt8 × Nd)) (hT : TR w tb mb M) (who s : ByteArray) (a b : List UInt8) (hp : s.data.toList = a ++ 47 :: b) (hb : (47 : UInt8) ∉ b) (hs : s.size ≤ 1000000) (n : Nd) (hn : M.lookup ((a ++ 47 :: b).take (max a.length 1)) = some n) :
    Calls Tryz.prog 51 #[.pointer (some ⟨tb, 0, none⟩), .string who, .string s] w fun e w' => e = .returned (.bool (mayOk who 2 n.owner n.mode)) ∧ ∃ q, w' = w.drewN q := by
  have hz : s.size = a.length + 1 + b.length := by
    have : s.size = s.data.toList.length := rfl
    rw [this, hp, List.length_append, List.length_cons]; omega
  have PA : ∀ W, Calls Tryz.prog 84 #[.string s] W fun e w' => e = .returned (.string ⟨((a ++ 47 :: b).take (max a.length 1)).toArray⟩) ∧ w' = W := fun W => (parent_any s a b hp hb hs W).mono (by
    rintro e w' ⟨r, rfl, hr, rfl⟩
    rw [bytes_of hr]
    exact ⟨rfl, rfl⟩)
  have hN := hT.nodes _ _ (lookup_in hn)
  have MA : ∀ q, Calls Tryz.prog 63 #[.string who, .int .i64 2, .pointer (some ⟨n.blk, 0, none⟩)] (w.drewN q) fun e w' => e = .returned (.bool (mayOk who 2 n.owner n.mode)) ∧ w' = w.drewN q := fun q => may_any (w.drewN q) who 2 n.blk _ n.owner n.dir n.mode n.data (show CB (w.drewN q) n.blk _ _ from hN.1) hN.2 (.inr (.inl rfl))
  obtain ⟨ps, hps⟩ : ∃ ps : ByteArray, ps = ⟨((a ++ 47 :: b).take (max a.length 1)).toArray⟩ := ⟨_, rfl⟩
  have hLK : ∀ q, (Instr.lookup 94 (.map (some mb)) (.string ps) false).run Tryz.prog (w.drewN q) = .ok (.pointer (some ⟨n.blk, 0, none⟩)) (w.drewN q) := by
    intro q
    have hT' : TR (w.drewN q) tb mb M := ⟨hT.top, hT.map, hT.nodes⟩
    have hpl : ps.data.toList = (a ++ 47 :: b).take (max a.length 1) := by rw [hps]
    have := run_lookP hT' ps (by rw [hpl, List.length_take]; have : s.data.toList.length ≤ 1000000 := hs; rw [hp] at this; omega)
    rw [hpl, hn] at this
    exact this
  rw [← hps] at PA
  have kt := cell_box hT.top
  have PH := Lib.hid PA
  have MH := Lib.hid MA
  clear PA MA hps hT hp hb hs hn hN hz
  go_enter Tryz.func51, Tryz.ntmps51
  go_wp2_with fail
  go_quiet ((first
    | (go_at_call 84; with_reducible exact Calls.quiet_of_same (PH.out _))
    | (go_at_call 63; with_reducible exact Calls.quiet_of_same (MH.out _))))
  go_wp2
  go_ret
  exact ⟨rfl, nq, rfl⟩
end Go.Proofs.YtlkchajkhplapaaGreatDoor
namespace Go.Proofs.YtlkchajkhplapaaGreatDoor
open Go.RowKit Go.Maps Go.WideMaps

theorem byteT : ByteT Tryz.prog 29 5 := ⟨Tryz.underlying29, Tryz.underlying5, by kernel_rfl⟩
set_option maxHeartbeats 400000 in
theorem bclone_any (A : Option Addr) (l : List UInt8) (cap n : Nat) (w : World) (hn : l.length = n) (h : RB w w.heap.size A l cap) (hl : n ≤ 140737488355328) :
    Calls Tryz.prog 64 #[.slice A n cap] w fun e w' => ∃ A' c, e = .returned (.slice A' n c) ∧ OwnB w' w.heap.size 5 (.slice A' n c) l ∧ Below w.heap.size w w' := by
  subst hn
  have hl2 : l.length ≤ 9223372036854775807 := by omega
  have hne := fun wx => Lib.run_eql_slice_nil (P := Tryz.prog) wx 29 5 A l.length cap 0 0 Tryz.underlying29
  cases A with
  | none =>
    have h0 : cap = 0 ∧ l = [] := by
      obtain ⟨h1, h2, h3⟩ := h
      rcases h3 with ⟨_, h3⟩ | ⟨a, ha, _⟩
      · exact ⟨h3, List.eq_nil_of_length_eq_zero (by omega)⟩
      · cases ha
    obtain ⟨rfl, rfl⟩ := h0
    clear h hne
    have hne := fun wx => Lib.run_eql_slice_nil (P := Tryz.prog) wx 29 5 none 0 0 0 0 Tryz.underlying29
    go_enter Tryz.func64, Tryz.ntmps64
    go_wp2
    go_ret
    exact ⟨_, _, rfl, OwnB.nil_ _ _ _, Below.refl _ _⟩
  | some a =>
    have H := Lib.hid h
    clear h
    go_enter Tryz.func64, Tryz.ntmps64
    go_wp2_with (at_builtin; refine wpList_appB byteT rfl (.tmp 5) (.tmp 6) rfl (OwnB.new0 _ w.heap.size _ (Nat.le_refl _)) (H.out.alloc (Nat.le_refl _) _) rfl rfl (by simp; omega) (by simp) ?_; intro v' w' hown' hg' _ hat')
    rw [List.nil_append] at hown'
    obtain ⟨A', c, rfl, hr, -⟩ := hown'.shape
    go_ret
    exact ⟨A', c, rfl, hown', ((Below.refl _ _).alloc (Nat.le_refl _) _).grown hg' (by simp) (fun k hk => by simp [Value.ownBlock] at hk; omega)⟩

def zeroNd : List Value := nodeC ⟨#[]⟩ false ⟨#[]⟩ 0 (.slice none 0 0)
theorem zeroNd_run (w : World) : (zeroValue 63).run Tryz.prog w = .ok (.agg zeroNd.toArray) w := by kernel_rfl
theorem aggNd : AggT Tryz.prog 63 5 := ⟨fun _ => by kernel_rfl, by kernel_rfl⟩
theorem results_C1 {w : World} {cs : List Value} {fn : Func} {p : Tmp} {n g : Nat} {t ty : TypeId} (hr : fn.results = #[.cell p ty]) (tmps : Array Value) (hT : AggT Tryz.prog ty n) (h : CB w g t cs) (hl : cs.length = n) (hp : tmps.getD p undef = .pointer (some ⟨g, 0, none⟩)) :
    (results fn tmps).run Tryz.prog w = .ok (.agg cs.toArray) w := by
  have hp' : tmps[p]?.getD undef = .pointer (some ⟨g, 0, none⟩) := by simpa using hp
  have hld := run_loadC (P := Tryz.prog) (p := cs) (off := 0) hT h (by rw [List.drop_zero]; exact List.take_of_length_le (by omega)) (by omega)
  simp [results, hr, hp', asAddr, hld]
theorem over_nd (cs : List Value) (path owner : ByteArray) (dir : Bool) (mode : Nat) (v : Value) (h : cs.length = 5) : over cs 0 (nodeC path dir owner mode v) = nodeC path dir owner mode v := by
  rw [over, List.take_zero, List.nil_append, List.drop_eq_nil_of_le (by simp [nodeC]; omega), List.append_nil]
theorem nd_one (path owner : ByteArray) (dir : Bool) (mode : Nat) (A : Option Addr) (n c : Nat) : ∀ u ∈ nodeC path dir owner mode (.slice A n c), u.oneCell' = true := by
  intro u hu
  simp only [nodeC, List.mem_cons, List.not_mem_nil, or_false] at hu
  rcases hu with rfl | rfl | rfl | rfl | rfl <;> rfl
set_option maxHeartbeats 1000000 in
theorem apart_any (w : World) (path owner : ByteArray) (dir : Bool) (mode : Nat) (A : Option Addr) (l : List UInt8) (cap n : Nat) (hn : l.length = n) (h : RB w w.heap.size A l cap) (hl : n ≤ 1000000) (hp : path.size ≤ 1000000) (ho : owner.size ≤ 1000000) :
    Calls Tryz.prog 74 #[.agg (nodeC path dir owner mode (.slice A n cap)).toArray] w fun e w' => ∃ A' c, e = .returned (.agg (nodeC path dir owner mode (.slice A' n c)).toArray) ∧ OwnB w' w.heap.size 5 (.slice A' n c) l ∧ Below w.heap.size w w' := by
  have H := Lib.hid h
  clear h
  obtain ⟨w1, hw1⟩ : ∃ w1, w1 = (w.alloc (.cells (nodeC path dir owner mode (.slice A n cap)).toArray 63)).alloc (.cells #[.string ⟨#[]⟩, .bool false, .string ⟨#[]⟩, .int .i64 0, .slice none 0 0] 63) := ⟨_, rfl⟩
  have hc1 : CB w1 w.heap.size 63 (nodeC path dir owner mode (.slice A n cap)) := by rw [hw1]; exact (CB.new w _ _).alloc _
  have hz1 : CB w1 (w.heap.size + 1) 63 zeroNd := by
    have := CB.new (w.alloc (.cells (nodeC path dir owner mode (.slice A n cap)).toArray 63)) 63 zeroNd
    rw [World.size_alloc] at this
    rw [hw1]; exact this
  have hb1 : Below w.heap.size w w1 := by rw [hw1]; exact ((Below.refl _ w).alloc (Nat.le_refl _) _).alloc (by simp) _
  have k0 := hc1.at_ (i := 0) (v := .string path) rfl
  rw [hw1] at k0
  have HC1 := Lib.hid hc1
  have HZ1 := Lib.hid hz1
  have HB1 := Lib.hid hb1
  have HW1 := Lib.hid hw1
  clear hc1 hz1 hb1 hw1
  go_enter Tryz.func74, Tryz.ntmps74
  go_wp2_with (first
    | refine wpList_allocC zeroNd_run rfl rfl ?_
    | refine wpList_loadC (off := 0) (p := nodeC path dir owner mode (.slice A' n c)) aggNd rfl (.tmp 1) rfl HC7.out rfl (Nat.le_refl _) rfl ?_
    | (refine wpList_storeC (off := 0) (p := nodeC path dir owner mode (.slice A' n c)) aggNd.hi rfl (.tmp 2) (.tmp 15) rfl (.agg (nodeC path dir owner mode (.slice A' n c)).toArray) rfl (nd_one _ _ _ _ _ _ _) HZ7.out rfl (Nat.le_refl _) rfl rfl ?_; intro w8 h8 g8; rw [over_nd _ _ _ _ _ _ rfl] at h8)
    | (go_at_call 64; refine (bclone_any A l cap n _ hn (by have := HB5.out; exact (H.out.below this).more this.size) (by omega)).mono ?_; rintro e w6 ⟨A', c, rfl, ho6, hb6⟩; have HC6 := Lib.hid (HC5.out.below hb6 HC5.out.lt); have HZ6 := Lib.hid (HZ5.out.below hb6 HZ5.out.lt); have s4 := HC6.out.at_ (i := 4) (v := .slice A n cap) rfl; have f4 := HC6.out.free 4; have HC7 := Lib.hid (show CB (w6.setCell ⟨w.heap.size, 4, none⟩ (.slice A' n c)) w.heap.size 63 (nodeC path dir owner mode (.slice A' n c)) from HC6.out.set_ 4 (.slice A' n c)); have HZ7 := Lib.hid (HZ6.out.far (p := ⟨w.heap.size, 4, none⟩) (by simp) (.slice A' n c)); have HO6 := Lib.hid ho6; have HB6 := Lib.hid hb6; clear ho6 hb6)
    | (go_at_call 59; have hx := HC3; clear hx; refine (clone_any owner _ ho).mono ?_; rintro e w4 ⟨rfl, hb4⟩; have HC4 := Lib.hid (HC3.out.below hb4 HC3.out.lt); have HZ4 := Lib.hid (HZ3.out.below hb4 HZ3.out.lt); have HB4 := Lib.hid (HB3.out.trans (hb4.mono HB3.out.size)); have s2' := HC4.out.at_ (i := 2) (v := .string owner) rfl; have f2' := HC4.out.free 2; have HC5 := Lib.hid (show CB (w4.setCell ⟨w.heap.size, 2, none⟩ (.string owner)) w.heap.size 63 (nodeC path dir owner mode (.slice A n cap)) from HC4.out.set_ 2 (.string owner)); have HZ5 := Lib.hid (HZ4.out.far (p := ⟨w.heap.size, 2, none⟩) (by simp) (.string owner)); have HB5 := Lib.hid (HB4.out.setCell (p := ⟨w.heap.size, 2, none⟩) (Nat.le_refl _) (.string owner)); have k4 := HC5.out.at_ (i := 4) (v := .slice A n cap) rfl; clear hb4)
    | (go_at_call 59; rw [← HW1.out]; refine (clone_any path _ hp).mono ?_; rintro e w2 ⟨rfl, hb2⟩; have HC2 := Lib.hid (HC1.out.below hb2 HC1.out.lt); have HZ2 := Lib.hid (HZ1.out.below hb2 HZ1.out.lt); have HB2 := Lib.hid (HB1.out.trans (hb2.mono HB1.out.size)); have s0 := HC2.out.at_ (i := 0) (v := .string path) rfl; have f0 := HC2.out.free 0; have HC3 := Lib.hid (show CB (w2.setCell ⟨w.heap.size, 0, none⟩ (.string path)) w.heap.size 63 (nodeC path dir owner mode (.slice A n cap)) from HC2.out.set_ 0 (.string path)); have HZ3 := Lib.hid (HZ2.out.far (p := ⟨w.heap.size, 0, none⟩) (by simp) (.string path)); have HB3 := Lib.hid (HB2.out.setCell (p := ⟨w.heap.size, 0, none⟩) (Nat.le_refl _) (.string path)); have k2 := HC3.out.at_ (i := 2) (v := .string owner) rfl; clear hb2))
  refine bodyPost_ret (results_C1 rfl _ aggNd h8 rfl rfl) rfl ?_
  have hlt := HB5.out.size
  have hz5 := HZ5.out.lt
  have hne : ∀ k, (Value.slice A' n c).ownBlock = some k → w.heap.size + 1 < k := fun k hk => by have := (HO6.out.lt k hk).1; omega
  have o7 : OwnB (w6.setCell ⟨w.heap.size, 4, none⟩ (.slice A' n c)) _ 5 (.slice A' n c) l := World.ownsRow.kept (row := some w.heap.size) HO6.out ⟨rfl, rfl, rfl, by simp, fun k hk hn => Below.heap_setCell _ _ _ k (fun e => hn (by rw [e]))⟩ (.inr fun e => by have := hne _ e; omega)
  have o8 := World.ownsRow.kept (row := some (w.heap.size + 1)) o7 g8 (.inr fun e => by have := hne _ e; omega)
  refine ⟨A', c, rfl, OwnB.base_ o8 hlt, ?_⟩
  exact ((HB5.out.trans (HB6.out.mono hlt)).setCell (p := ⟨w.heap.size, 4, none⟩) (Nat.le_refl _) _).grown g8 (by have := HB5.out.size; have := HB6.out.size; simp; omega) (fun k e => by cases e; omega)
end Go.Proofs.YtlkchajkhplapaaGreatDoor
