/- A Sealer by symbols: Open, Drawn; the document's example; what is great. -/
import Derived.Test.YtaanhancjmigdaaDoorSee
import Derived.Lib.SlBytesConst
namespace Go.Proofs.YtaanhancjmigdaaDoor
open Go.RowKit Go.Maps

theorem Opened.trans {w w1 w' : World} {o : Option (List UInt8)} {e : Ending} (hg : w.grownBy w1 none) (h : Opened w1 o e w') : Opened w o e w' := by
  refine ⟨grown_trans' hg h.1, ?_⟩
  have h2 := h.2
  cases o with
  | none => exact h2
  | some p =>
    obtain ⟨A, c, h3, h4⟩ := h2
    exact ⟨A, c, h3, h4.base_ hg.size⟩
set_option maxRecDepth 10000 in
set_option maxHeartbeats 1000000 in
theorem open_any (w : World) (B s : Nat) (r : Option Nat) (T : List Te) (d : Nat) (h : SS w B s r T d) (key : List UInt8) (u : Int) (A : Option Addr) (box : List UInt8) (n cap : Nat) (hk : key.length = 16) (hn : box.length = n) (hp : RB w w.heap.size A box cap) (hb : n ≤ 1000000) (hT : T.length < 1000000) (hpl : ∀ t ∈ T, t.2.2.length ≤ 100000) :
    Calls Tryd.prog 18 #[.pointer (some ⟨s, 0, none⟩), .agg (bcells key).toArray, .int .i64 u, .slice A n cap] w fun e w' => Opened w (openS T key u box) e w' := by
  have G0 := Lib.hid (grown_alloc w (.cells (bcells key).toArray 23) none)
  have K0 := Lib.hid (CB.new w 23 (bcells key))
  have HK := Lib.hid hk
  have S0 := Lib.hid (h.none G0.out)
  obtain ⟨-, -, v, rows, -, hcb, -⟩ := S0.out
  have q0 := hcb.at_ (seC_sy d T.length v)
  have HC := Lib.hid (openSym_any _ B s r T d S0.out key u A box n cap hk hn (hp.keptS G0.out) hb hT hpl)
  clear h hk hn hp hb hT hpl hcb
  obtain ⟨o, ho⟩ : ∃ o, openS T key u box = o := ⟨_, rfl⟩
  rw [ho] at HC ⊢
  clear ho
  cases o with
  | none =>
    go_enter Tryd.func18, Tryd.ntmps18
    go_wp2_with (first
      | (refine wpList_loadC (off := 0) (p := bcells key) aggKy rfl (.tmp 5) rfl K0.out (take_all (by rw [bcells_length]; exact HK.out)) (by rw [bcells_length, HK.out]; omega) (by first | rfl | go_simp) ?_)
      | (go_at_call 33; refine HC.out.mono ?_; rintro e w2 ⟨g, rfl⟩; have G2 := Lib.hid (grown_trans' G0.out g); clear g))
    go_ret2
    exact ⟨G2.out, rfl⟩
  | some p =>
    go_enter Tryd.func18, Tryd.ntmps18
    go_wp2_with (first
      | (refine wpList_loadC (off := 0) (p := bcells key) aggKy rfl (.tmp 5) rfl K0.out (take_all (by rw [bcells_length]; exact HK.out)) (by rw [bcells_length, HK.out]; omega) (by first | rfl | go_simp) ?_)
      | (go_at_call 33; refine HC.out.mono ?_; rintro e w2 ⟨g, A5, c5, rfl, o5⟩; have G2 := Lib.hid (grown_trans' G0.out g); have O5 := Lib.hid (o5.base_ G0.out.size); clear g o5))
    go_ret2
    exact ⟨G2.out, A5, c5, rfl, O5.out⟩
theorem drawn_any (w : World) (B s : Nat) (r : Option Nat) (T : List Te) (d : Nat) (h : SS w B s r T d) : Calls Tryd.prog 21 #[.pointer (some ⟨s, 0, none⟩)] w fun e w' => e = .returned (.int .i64 d) ∧ w = w' := by
  obtain ⟨-, -, v, rows, -, hcb, -⟩ := h
  have q := hcb.at_ (seC_dr d T.length v)
  clear hcb
  go_enter Tryd.func21, Tryd.ntmps21
  go_wp2
  go_ret
  exact ⟨rfl, rfl⟩
theorem run_buildZ (w : World) : (Instr.build 23 #[]).run Tryd.prog w = .ok (.agg (bcells (zeros 16)).toArray) w := by kernel_rfl
theorem run_build1 (w : World) : (Instr.build 23 #[(0, .int .u8 1)]).run Tryd.prog w = .ok (.agg (bcells (1 :: zeros 15)).toArray) w := by kernel_rfl
theorem run_build2 (w : World) : (Instr.build 23 #[(0, .int .u8 2)]).run Tryd.prog w = .ok (.agg (bcells (2 :: zeros 15)).toArray) w := by kernel_rfl
theorem speaks_o1 : openS [(1 :: zeros 15, 2, [120])] (1 :: zeros 15) 2 (boxN 0) = some [120] := by decide +kernel
theorem speaks_o2 : openS [(1 :: zeros 15, 2, [120])] (2 :: zeros 15) 2 (boxN 0) = none := by decide +kernel
theorem speaks_o3 : openS [(1 :: zeros 15, 2, [120])] (1 :: zeros 15) 3 (boxN 0) = none := by decide +kernel
theorem ownB_rb {w : World} {base n c : Nat} {e : TypeId} {A : Option Addr} {l : List UInt8} (h : OwnB w base e (.slice A n c) l) : RB w w.heap.size A l c := by
  obtain ⟨A', c', hv, hr, -⟩ := OwnB.shape h
  injection hv with h1 _ h2
  subst h1 h2
  exact hr
/-- A Sealer that wasn't there yet, and all that it has, is new memory. -/
theorem wrs_new {a b c : World} {s : Nat} (h : a.grownBy b none) (k : Wrs b c s none) (hs : a.heap.size ≤ s) : a.grownBy c none :=
  ⟨k.os.trans h.os, k.tape.trans h.tape, k.output.trans h.output, Nat.le_trans h.size k.size, fun i hi hr => (k.block i (Nat.lt_of_lt_of_le hi h.size) (by omega) (by simp)).trans (h.block i hi hr)⟩
set_option maxRecDepth 10000 in
set_option maxHeartbeats 4000000 in
theorem sspeaks_any (w : World) : Calls Tryd.prog 9 #[] w fun e w' => e = .returned (.bool true) ∧ w.grownBy w' none := by
  have HB9 := Lib.hid (show (boxN 0).length = 9 from boxN_len 0)
  have HB0 := Lib.hid (show boxN 0 = [83, 0, 0, 0, 0, 0, 0, 0, 0] by decide +kernel)
  have TK0 := Lib.hid True.intro
  go_enter Tryd.func9, Tryd.ntmps9
  go_wp2_with (first
    | (have hx := TK0; clear hx; refine wpList_buildV rfl rfl (by first | rfl | (go_simp; rfl)) (run_buildZ _) ?_)
    | (go_at_call 11; refine (snew_any (zeros 16) _).mono ?_; rintro e w1 ⟨rfl, s1, g1⟩; have S1 := Lib.hid s1; have G1 := Lib.hid g1; have kc := Lib.run_convert_bytes_const (P := Tryd.prog) w1 32 5 #[.int .u8 120] 1 1 Tryd.underlying32 Tryd.underlying5; clear s1 g1 TK0; have TK1 := Lib.hid True.intro)
    | (have hx := TK1; clear hx; refine wpList_buildV rfl rfl (by first | rfl | (go_simp; rfl)) (run_build1 _) ?_; clear TK1)
    | (have hx := TK2; clear hx; refine wpList_buildV rfl rfl (by first | rfl | (go_simp; rfl)) (run_build1 _) ?_)
    | (go_at_call 15; have gx := grown_alloc w1 (.cells #[.int .u8 120] 5 (1, 2)) none; refine (seal_any _ _ _ _ _ _ (S1.out.none gx) (1 :: zeros 15, 2, [120]) (some ⟨w1.heap.size, 0, none⟩) 1 1 rfl rfl (RB.newm w1 5 (1, 2) [120] (by decide) _ (by simp)) (fun a ha => .inr (by injection ha with ha; subst ha; exact ⟨by have := S1.out.lt; show w1.heap.size ≠ _; omega, by simp⟩)) (by omega) (by decide)).mono ?_; rintro e w2 ⟨v, r', rfl, o2, s2, wr, -⟩; obtain ⟨bA, bc, rfl, rb, -⟩ := o2.shape; rw [boxN_len]; obtain ⟨bg, bo, rfl, -, -⟩ := rb.open_ (by rw [boxN_len]; omega); have S2 := Lib.hid (show SS w2 (w.heap.size + 1) (w.heap.size + 1) r' [(1 :: zeros 15, 2, [120])] 0 from s2); have R2 := Lib.hid (show RB w2 w2.heap.size (some ⟨bg, bo, none⟩) (boxN 0) bc from rb); have G2 := Lib.hid (wrs_new (grown_trans' G1.out gx) wr (by have := S1.out.lt; omega)); clear o2 s2 wr rb kc gx; have TK2 := Lib.hid True.intro)
    | (go_at_call 18; have hx := TK2; clear hx; refine (open_any _ _ _ _ _ _ S2.out (1 :: zeros 15) 2 (some ⟨bg, bo, none⟩) (boxN 0) 9 bc rfl HB9.out R2.out (by omega) (by decide) (fun t ht => by rw [List.mem_singleton.1 ht]; decide)).mono ?_; rw [speaks_o1]; rintro e w3 ⟨g, A3, c3, rfl, o3⟩; have S3 := Lib.hid (S2.out.none g); have R3 := Lib.hid (R2.out.keptS g); have G3 := Lib.hid (grown_trans' G2.out g); have P3 := Lib.hid o3; clear g o3 TK2; have TK3 := Lib.hid True.intro)
    | (have hx := TK3; clear hx; refine wpList_buildV rfl rfl (by first | rfl | (go_simp; rfl)) (run_build2 _) ?_)
    | (go_at_call 18; have hx := TK3; clear hx; refine (open_any _ _ _ _ _ _ S3.out (2 :: zeros 15) 2 (some ⟨bg, bo, none⟩) (boxN 0) 9 bc rfl HB9.out R3.out (by omega) (by decide) (fun t ht => by rw [List.mem_singleton.1 ht]; decide)).mono ?_; rw [speaks_o2]; rintro e w4 ⟨g, rfl⟩; have S4 := Lib.hid (S3.out.none g); have R4 := Lib.hid (R3.out.keptS g); have G4 := Lib.hid (grown_trans' G3.out g); have P4 := Lib.hid (OwnB.below P3.out (below_of_none g)); clear g TK3; have TK4 := Lib.hid True.intro)
    | (have hx := TK4; clear hx; refine wpList_buildV rfl rfl (by first | rfl | (go_simp; rfl)) (run_build1 _) ?_)
    | (go_at_call 18; have hx := TK4; clear hx; refine (open_any _ _ _ _ _ _ S4.out (1 :: zeros 15) 3 (some ⟨bg, bo, none⟩) (boxN 0) 9 bc rfl HB9.out R4.out (by omega) (by decide) (fun t ht => by rw [List.mem_singleton.1 ht]; decide)).mono ?_; rw [speaks_o3]; rintro e w5 ⟨g, rfl⟩; have s1 := run_strB byteT Tryd.underlying9 (R4.out.keptS g); have s2 := run_strB byteT Tryd.underlying9 (ownB_rb (OwnB.below P4.out (below_of_none g))); rw [HB9.out, HB0.out] at s1; rw [show ([120] : List UInt8).length = 1 from rfl] at s2; have G5 := Lib.hid (grown_trans' G4.out g); clear g TK4))
  go_ret
  exact ⟨rfl, G5.out⟩
end Go.Proofs.YtaanhancjmigdaaDoor
