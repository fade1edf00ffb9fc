/- The walks of what a Reader does with a byte: fail, addData, whole. -/
import Derived.Test.YtcfhpoigfkljpaaTlm
namespace Go.Proofs.Ytcfhpoigfkljpaa
open Go.ChangeShapes Go.WideShapes Go.RowKit

theorem szI : (Try.prog.info? 3).map (·.size) = some 1 := by kernel_rfl
theorem szE : (Try.prog.info? 26).map (·.size) = some 1 := by kernel_rfl
theorem szB : (Try.prog.info? 22).map (·.size) = some 1 := by kernel_rfl
theorem szT : (Try.prog.info? 24).map (·.size) = some 4 := by kernel_rfl

theorem rb1 (w : World) (t : TypeId) (u : UInt8) (x : Int) (hx : x = (u.toNat : Int)) : RB (w.alloc (.cells #[.int .u8 x] t)) (w.alloc (.cells #[.int .u8 x] t)).heap.size (some ⟨w.heap.size, 0, none⟩) [u] 1 := RB.new1 w t u x hx _ (by rw [World.size_alloc]; omega)
section
variable {w : World} {b2 base r : Nat} {pv v : Value} {vs : List Value} {s : Ts} {ps : List Tl}
set_option maxHeartbeats 1000000 in
theorem fail_any (h : RD w base r pv s) (e1 : Int) :
    Calls Try.prog 40 #[.pointer (some ⟨r, 0, none⟩), .int .i64 e1] w fun e w' => e = .returned (.tuple #[]) ∧ RR w w' base r pv ⟨s.beh, tl0, e1⟩ := by
  have C0 := Lib.hid h.2.1
  have H := Lib.hid h
  clear h
  go_enter Try.func40, Try.ntmps40
  go_wp2_with (first
    | (refine wpList_setC (off := 5) szE rfl (.tmp 9) (.tmp 6) rfl .i64 e1 C0.out (by simp) (by first | rfl | go_simp) (by first | rfl | go_simp) ?_; intro w1 h1 g1; have C1 := Lib.hid h1; have G1 := Lib.hid g1; clear h1 g1)
    | (refine wpList_storeC (off := 1) (p := [.int .i64 0, .int .i64 0, .int .i64 0, .slice none 0 0]) szT rfl (.tmp 11) (.tmp 7) rfl (.agg #[.int .i64 0, .int .i64 0, .int .i64 0, .slice none 0 0]) rfl (by decide) C1.out rfl (by simp) (by first | rfl | go_simp) (by first | rfl | go_simp) ?_; intro w2 h2 g2; have C2 := Lib.hid h2; have G2 := Lib.hid g2; clear h2 g2))
  go_end0
  refine ⟨rfl, .slice none 0 0, ?_⟩
  exact H.out.cells (s' := ⟨s.beh, tl0, e1⟩) C2.out (grown_trans' G1.out G2.out) (.inr ⟨rfl, rfl⟩)
set_option maxHeartbeats 1000000 in
theorem addData_any (h : RD w base r pv s) (hd : s.part.data.length ≤ 3000) (hb : base ≤ w.heap.size) (c : UInt8) :
    Calls Try.prog 36 #[.pointer (some ⟨r, 0, none⟩), .int .u8 (c.toNat : Int)] w fun e w' => e = .returned (.tuple #[]) ∧ RR w w' base r pv (addF s s.beh c) := by
  obtain ⟨A, cc, hv0, -, -⟩ := h.2.2.shape
  obtain ⟨n, hn⟩ : ∃ n, s.part.data.length = n := ⟨_, rfl⟩
  have HN := Lib.hid hn
  rw [hn] at hv0 hd
  subst hv0
  have k4 : w.cell? ⟨r, 4, none⟩ = some (.slice A n cc) := h.2.1.at_ rfl
  have C0 := Lib.hid h.2.1
  have H := Lib.hid h
  have HD := Lib.hid hd
  by_cases h3 : n = 3000
  · have ha : addF s s.beh c = ⟨s.beh, tl0, 23⟩ := by unfold addF; rw [if_pos (by rw [hn]; exact h3)]
    rw [ha]
    clear h ha hn hd
    subst h3
    go_enter Try.func36, Try.ntmps36
    go_wp2_with (go_at_call 40; refine (fail_any H.out 23).mono ?_; rintro e w1 ⟨rfl, r1⟩; have R1 := Lib.hid r1; clear r1)
    refine bodyPost_ret (results_none rfl _ _ _) rfl ?_
    exact ⟨rfl, R1.out⟩
  · have ha : addF s s.beh c = ⟨s.beh, { s.part with data := s.part.data ++ [c] }, s.err⟩ := by unfold addF; rw [if_neg (by rw [hn]; exact h3)]
    rw [ha]
    have hne : ((n : Int) == 3000) = false := by rw [beq_eq_false_iff_ne]; omega
    clear h ha hn hd h3
    go_enter Try.func36, Try.ntmps36
    go_wp2_with (first
      | (at_builtin; refine wpList_appB byteT rfl (.tmp 18) (.tmp 20) rfl (OwnB.none_ H.out.2.2 (grown_alloc _ _ none)) (rb1 _ _ c _ rfl) (by first | rfl | go_simp) (by first | rfl | go_simp) (by rw [HN.out]; have := HD.out; simp; omega) (by rw [World.size_alloc]; omega) ?_; intro v2 w2 o2 g2 _ a2; have O2 := Lib.hid o2; have G2 := Lib.hid g2; have A2 := Lib.hid a2; clear o2 g2 a2)
      | (refine wpList_storeC (off := 4) (p := [v2]) szB rfl (.tmp 24) (.tmp 21) rfl v2 (by obtain ⟨_, _, hx, _⟩ := O2.out.shape; rw [hx]; rfl) (fun u hu => by rw [List.mem_singleton.1 hu]; obtain ⟨_, _, hx, _⟩ := O2.out.shape; rw [hx]; rfl) ((C0.out.alloc _).mod (Mod.of_grown G2.out) (fun e => H.out.2.2.ne_cells C0.out (by decide) e.symm)) rfl (by simp) (by first | rfl | go_simp) (by first | rfl | go_simp) ?_; intro w3 h3 g3; have C3 := Lib.hid h3; have G3 := Lib.hid g3; clear h3 g3))
    go_end0
    have hne2 : ∀ g, v2.ownBlock = some g → g ≠ r := fun g hg e => by
      subst e
      rcases A2.out with h | h
      · exact (H.out.vlt g (h ▸ hg)).2.2 rfl
      · rw [hg] at h; injection h with h; have := H.out.lt.2; rw [World.size_alloc] at h; omega
    refine ⟨rfl, v2, ⟨H.out.1, C3.out, O2.out.mod (Mod.of_grown G3.out) (fun g hg e => hne2 g hg (by injection e))⟩, ?_, Nw.of A2.out (by rw [World.size_alloc]; omega)⟩
    exact ((Mod.made (grown_alloc _ _ none)).grown G2.out (fun z hz _ => .inr hz)).grown G3.out (fun z hz _ => .inl (by injection hz with hz; exact hz.symm))
set_option maxHeartbeats 1000000 in
theorem whole_any (h : TX w b2 base r pv v vs s ps) (hb2 : b2 ≤ w.heap.size) (hps : ps.length ≤ 1000000) :
    Calls Try.prog 35 #[.pointer (some ⟨r, 0, none⟩), v] w fun e w' => ∃ v', e = .returned v' ∧ TR w w' b2 base r pv v vs v' ⟨0, tl0, s.err⟩ (ps ++ [s.part]) := by
  have C0 := Lib.hid h.rd.2.1
  have H := Lib.hid h
  obtain ⟨A, cc, hv0, -, -⟩ := h.rd.2.2.shape
  obtain ⟨n, hn⟩ : ∃ n, s.part.data.length = n := ⟨_, rfl⟩
  rw [hn] at hv0
  subst hv0
  clear h hn
  go_enter Try.func35, Try.ntmps35
  go_wp2_with (first
    | (refine wpList_loadC (off := 1) (p := [.int .i64 s.part.kind, .int .i64 s.part.verb, .int .i64 s.part.opt, .slice A n cc]) aggT4 rfl (.tmp 8) rfl C0.out rfl (by simp) (by first | rfl | go_simp) ?_)
    | (at_builtin
       obtain ⟨wa, hwa⟩ : ∃ wa, wa = w.alloc (.cells #[.int .i64 s.part.kind, .int .i64 s.part.verb, .int .i64 s.part.opt, .slice A n cc] 24) := ⟨_, rfl⟩
       have GA := Lib.hid (show w.grownBy wa none by rw [hwa]; exact grown_alloc _ _ _)
       have NA := Lib.hid (show CB wa w.heap.size 24 [.int .i64 s.part.kind, .int .i64 s.part.verb, .int .i64 s.part.opt, .slice A n cc] by rw [hwa]; exact CB.new _ _ _)
       rw [← hwa]
       clear hwa
       refine wpList_appP rfl (.tmp 5) (.tmp 10) rfl (t := s.part) (u := .slice A n cc) (ad := ⟨w.heap.size, 0, none⟩) (c := 1) (H.out.row.none_ GA.out) (OwnB.none_ H.out.rd.2.2 GA.out) (NA.out.at_ rfl) (NA.out.at_ rfl) (NA.out.at_ rfl) (NA.out.at_ rfl) (by first | rfl | go_simp) (by first | rfl | go_simp) (by omega) (by have := GA.out.size; omega) ?_
       intro v2 w2 o2 g2 a2
       have O2 := Lib.hid o2
       have G2 := Lib.hid g2
       have A2 := Lib.hid a2
       have C2 := Lib.hid ((C0.out.kept GA.out).mod (Mod.of_grown g2) (fun e => H.out.rowNe.1 e.symm))
       clear o2 g2 a2)
    | (refine wpList_setC (off := 0) szI rfl (.tmp 16) (.const (.int .i64 0)) rfl .i64 0 C2.out (by simp) (by first | rfl | go_simp) (by first | rfl | go_simp) ?_; intro w3 h3 g3; have C3 := Lib.hid h3; have G3 := Lib.hid g3; clear h3 g3)
    | (refine wpList_storeC (off := 1) (p := [.int .i64 0, .int .i64 0, .int .i64 0, .slice none 0 0]) szT rfl (.tmp 18) (.tmp 14) rfl (.agg #[.int .i64 0, .int .i64 0, .int .i64 0, .slice none 0 0]) rfl (by decide) C3.out rfl (by simp) (by first | rfl | go_simp) (by first | rfl | go_simp) ?_; intro w4 h4 g4; have C4 := Lib.hid h4; have G4 := Lib.hid g4; clear h4 g4))
  go_ret
  exact ⟨v2, rfl, H.out.whole GA.out O2.out G2.out A2.out (grown_trans' G3.out G4.out) ⟨H.out.rd.1, C4.out, OwnB.nil_ _ _ _⟩⟩
end
end Go.Proofs.Ytcfhpoigfkljpaa
