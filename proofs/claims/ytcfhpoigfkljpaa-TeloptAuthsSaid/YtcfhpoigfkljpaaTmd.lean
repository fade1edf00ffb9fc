/- The walk of sub, of the document's Read. -/
import Derived.Test.YtcfhpoigfkljpaaTmc
namespace Go.Proofs.Ytcfhpoigfkljpaa
open Go.ChangeShapes Go.WideShapes Go.RowKit
set_option linter.unusedVariables false

/-- What sub tells: where the part is whole, or the error. -/
def SubT (b : List UInt8) (f : Nat) (data : List UInt8) (nx e : Int) : Prop :=
  (∃ j : Nat, nx = (j : Int) ∧ e = 0 ∧ f < j ∧ j ≤ b.length ∧ ∀ (O : Int) (m : Nat), run ⟨4, ⟨3, 0, O, []⟩, 0⟩ m (b.drop f) = ((⟨3, 0, O, data⟩, m + (j - f)) :: (run ts0 (m + (j - f)) (b.drop j)).1, (run ts0 (m + (j - f)) (b.drop j)).2)) ∨
  (nx = -1 ∧ ∀ (O : Int) (m : Nat), (run ⟨4, ⟨3, 0, O, []⟩, 0⟩ m (b.drop f)).1 = [] ∧ (run ⟨4, ⟨3, 0, O, []⟩, 0⟩ m (b.drop f)).2.err = e)
/-- What the rounds keep. -/
def SubI (b : List UInt8) (f i : Nat) (data : List UInt8) : Prop := f ≤ i ∧ data.length ≤ 3000 ∧ ∀ (O : Int) (m : Nat), run ⟨4, ⟨3, 0, O, []⟩, 0⟩ m (b.drop f) = run ⟨4, ⟨3, 0, O, data⟩, 0⟩ (m + (i - f)) (b.drop i)
theorem drop_at {b : List UInt8} {i : Nat} (h : i < b.length) : b.drop i = b[i] :: b.drop (i + 1) := List.drop_eq_getElem_cons h
theorem SubI.plain {b : List UInt8} {f i : Nat} {data : List UInt8} (h : SubI b f i data) (hi : i < b.length) (hc : b[i].toNat ≠ 255) :
    (data.length = 3000 → SubT b f data (-1) 23) ∧ (data.length ≠ 3000 → SubI b f (i + 1) (data ++ [b[i]])) := by
  obtain ⟨h1, h2, h3⟩ := h
  refine ⟨fun hl => .inr ⟨rfl, fun O m => ?_⟩, fun hl => ⟨by omega, by simp; omega, fun O m => ?_⟩⟩
  · have hs : step ⟨4, ⟨3, 0, O, data⟩, 0⟩ b[i] = (⟨4, tl0, 23⟩, none) := by simp [step, hc, addF, hl]
    rw [h3, drop_at hi, run_quiet rfl hs, run_stop (by decide)]
    exact ⟨rfl, rfl⟩
  · have hs : step ⟨4, ⟨3, 0, O, data⟩, 0⟩ b[i] = (⟨4, ⟨3, 0, O, data ++ [b[i]]⟩, 0⟩, none) := by simp [step, hc, addF, hl]
    rw [h3, drop_at hi, run_quiet rfl hs, show m + (i - f) + 1 = m + (i + 1 - f) by omega]
theorem SubI.iac {b : List UInt8} {f i : Nat} {data : List UInt8} (h : SubI b f i data) (hi : i < b.length) (hc : b[i].toNat = 255) :
    (¬ i + 1 < b.length → SubT b f data (-1) 0) ∧ ∀ (hj : i + 1 < b.length), (b[i + 1].toNat = 240 → SubT b f data ((i + 2 : Nat) : Int) 0) ∧ (b[i + 1].toNat ≠ 240 → b[i + 1].toNat ≠ 255 → SubT b f data (-1) 21) ∧
      (b[i + 1].toNat = 255 → (data.length = 3000 → SubT b f data (-1) 23) ∧ (data.length ≠ 3000 → SubI b f (i + 2) (data ++ [b[i]]))) := by
  obtain ⟨h1, h2, h3⟩ := h
  have hs : ∀ O : Int, step ⟨4, ⟨3, 0, O, data⟩, 0⟩ b[i] = (⟨5, ⟨3, 0, O, data⟩, 0⟩, none) := fun O => by simp [step, hc]
  have hr : ∀ (O : Int) (m : Nat), run ⟨4, ⟨3, 0, O, []⟩, 0⟩ m (b.drop f) = run ⟨5, ⟨3, 0, O, data⟩, 0⟩ (m + (i - f) + 1) (b.drop (i + 1)) := fun O m => by rw [h3, drop_at hi, run_quiet rfl (hs O)]
  refine ⟨fun hn => .inr ⟨rfl, fun O m => ?_⟩, fun hj => ⟨fun hd => .inl ⟨i + 2, rfl, rfl, by omega, by omega, fun O m => ?_⟩, fun hd he => .inr ⟨rfl, fun O m => ?_⟩, fun hd => ⟨fun hl => .inr ⟨rfl, fun O m => ?_⟩, fun hl => ⟨by omega, by simp; omega, fun O m => ?_⟩⟩⟩⟩
  · rw [hr, List.drop_eq_nil_of_le (by omega)]
    exact ⟨rfl, rfl⟩
  · have ht : step ⟨5, ⟨3, 0, O, data⟩, 0⟩ b[i + 1] = (ts0, some ⟨3, 0, O, data⟩) := by simp [step, hd, ts0]
    rw [hr, drop_at hj, run_gives rfl ht, show m + (i - f) + 1 + 1 = m + (i + 2 - f) by omega]
  · have ht : step ⟨5, ⟨3, 0, O, data⟩, 0⟩ b[i + 1] = (⟨5, tl0, 21⟩, none) := by simp [step, hd, he]
    rw [hr, drop_at hj, run_quiet rfl ht, run_stop (by decide)]
    exact ⟨rfl, rfl⟩
  · have ht : step ⟨5, ⟨3, 0, O, data⟩, 0⟩ b[i + 1] = (⟨4, tl0, 23⟩, none) := by simp [step, hd, addF, hl]
    rw [hr, drop_at hj, run_quiet rfl ht, run_stop (by decide)]
    exact ⟨rfl, rfl⟩
  · have hcc : b[i + 1] = b[i] := by rw [← UInt8.toNat_inj]; omega
    have ht : step ⟨5, ⟨3, 0, O, data⟩, 0⟩ b[i + 1] = (⟨4, ⟨3, 0, O, data ++ [b[i]]⟩, 0⟩, none) := by rw [hcc]; simp [step, hc, addF, hl]
    rw [hr, drop_at hj, run_quiet rfl ht, show m + (i - f) + 1 + 1 = m + (i + 2 - f) by omega]
theorem SubI.done {b : List UInt8} {f i : Nat} {data : List UInt8} (h : SubI b f i data) (hi : b.length ≤ i) : SubT b f data (-1) 0 := by
  refine .inr ⟨rfl, fun O m => ?_⟩
  rw [h.2.2, List.drop_eq_nil_of_le hi]
  exact ⟨rfl, rfl⟩
/-- What sub comes to. -/
def SbR (w w' : World) (b : List UInt8) (f : Nat) (e : Ending) : Prop :=
  ∃ (v : Value) (data : List UInt8) (nx er : Int), e = .returned (.tuple #[.agg #[.int .i64 3, .int .i64 0, .int .i64 0, v], .int .i64 nx, .int .i64 er]) ∧ SubT b f data nx er ∧ OwnB w' w.heap.size 5 v data ∧ data.length ≤ 3000 ∧ w.grownBy w' none
theorem results_C3 {w : World} {cs : List Value} {fn : Func} {p q r : Tmp} {n g : Nat} {t ty : TypeId} (hr : fn.results = #[.cell p ty, .tmp q, .tmp r]) (tmps : Array Value) (hT : AggT Try.prog ty n) (h : CB w g t cs) (hl : cs.length = n) (hp : tmps.getD p undef = .pointer (some ⟨g, 0, none⟩)) :
    (results fn tmps).run Try.prog w = .ok (.tuple #[.agg cs.toArray, tmps.getD q undef, tmps.getD r undef]) w := by
  have hp' : tmps[p]?.getD undef = .pointer (some ⟨g, 0, none⟩) := by simpa using hp
  have hld := run_loadC (P := Try.prog) (p := cs) (off := 0) hT h (by rw [List.drop_zero]; exact List.take_of_length_le (by omega)) (by omega)
  simp [results, hr, hp', asAddr, hld]

set_option maxRecDepth 20000 in
set_option maxHeartbeats 8000000 in
theorem sub_spec {w : World} (A : Option Addr) (b : List UInt8) (n cap f : Nat) (hn : b.length = n) (hr : RB w w.heap.size A b cap) (hf : f ≤ n) (hnl : n ≤ 1000000) :
    Calls Try.prog 26 #[.slice A n cap, .int .i64 (f : Int)] w fun e w' => SbR w w' b f e := by
  have HR := Lib.hid hr
  have HN := Lib.hid hn
  have hni : (n : Int) ≤ 1000000 := by omega
  have I0 := Lib.hid (show SubI b f f [] from ⟨Nat.le_refl _, by simp, fun O m => by rw [Nat.sub_self, Nat.add_zero]⟩)
  clear hr hn
  go_enter Try.func26, Try.ntmps26
  go_wp2_with (first
    | (refine wpList_storeC (off := 0) (p := [.int .i64 3, .int .i64 0, .int .i64 0, .slice none 0 0]) szT rfl (.tmp 7) (.tmp 10) rfl (.agg #[.int .i64 3, .int .i64 0, .int .i64 0, .slice none 0 0]) rfl (fun u hu => by simp at hu; rcases hu with rfl | rfl | rfl | rfl <;> rfl) (CB.new _ 24 [.int .i64 0, .int .i64 0, .int .i64 0, .slice none 0 0]) rfl (by simp) (by first | rfl | go_simp) (by first | rfl | go_simp) ?_
       intro w1 h1 g1
       have D1 := Lib.hid (show CB w1 (w.heap.size + 1) 24 [.int .i64 3, .int .i64 0, .int .i64 0, .slice none 0 0] from by rw [← World.size_alloc w (.cells #[.int .i64 0, .int .i64 0, .int .i64 0, .slice none 0 0] 24)]; exact h1)
       have C1 := Lib.hid (show CB w1 w.heap.size 24 [.int .i64 0, .int .i64 0, .int .i64 0, .slice none 0 0] from (((CB.new w 24 [.int .i64 0, .int .i64 0, .int .i64 0, .slice none 0 0]).alloc _).mod (Mod.of_grown g1) (fun e => by injection e with e; rw [World.size_alloc] at e; omega)))
       have G1 := Lib.hid (show w.grownBy w1 none from grown_row (grown_trans' (grown_alloc w (.cells #[.int .i64 0, .int .i64 0, .int .i64 0, .slice none 0 0] 24) none) (grown_alloc _ (.cells #[.int .i64 0, .int .i64 0, .int .i64 0, .slice none 0 0] 24) none)) g1 (fun z hz => by injection hz with hz; rw [World.size_alloc] at hz; omega))
       clear h1 g1))
  obtain ⟨g0, hg0⟩ : ∃ x, w.heap.size = x := ⟨_, rfl⟩
  have HG0 := Lib.hid hg0
  rw [hg0] at D1 C1
  rw [hg0]
  clear hg0
  go_loopw [8, 9] (fun s8 _ wr => ∃ (i : Nat) (v : Value) (data : List UInt8), s8 = .int .i64 i ∧ i ≤ n ∧ SubI b f i data ∧ OwnB wr w.heap.size 5 v data ∧ CB wr (g0 + 1) 24 [.int .i64 3, .int .i64 0, .int .i64 0, v] ∧ CB wr g0 24 [.int .i64 0, .int .i64 0, .int .i64 0, .slice none 0 0] ∧ w.grownBy wr none) (fun s8 _ _ => n - (intOf s8).toNat)
  case atStart => exact ⟨f, _, [], rfl, hf, I0.out, OwnB.nil_ _ _ _, D1.out, C1.out, G1.out⟩
  case round =>
    obtain ⟨i, v, data, rfl, hi, hI, hv, hd, hc, hg⟩ := hrel
    obtain ⟨V, vc, rfl, -, -⟩ := hv.shape
    obtain ⟨dn, hdn⟩ : ∃ x, data.length = x := ⟨_, rfl⟩
    have HDN := Lib.hid hdn
    rw [hdn] at hv hd
    have HI := Lib.hid hI
    have OV := Lib.hid hv
    have DD := Lib.hid hd
    have CC := Lib.hid hc
    have GG := Lib.hid hg
    have hd3 : dn ≤ 3000 := by rw [← hdn]; exact hI.2.1
    have k3 : wr.cell? ⟨g0 + 1, 3, none⟩ = some (.slice V dn vc) := hd.at_ rfl
    clear hI hv hd hc hdn
    by_cases hin : i < n
    · have hii : (i : Int) < (n : Int) := by omega
      have hib : i < b.length := by rw [HN.out]; exact hin
      obtain ⟨ba, off, rfl, hbb, hcell⟩ := HR.out.open_ (by omega)
      obtain ⟨c, hcv⟩ : ∃ c, c = b[i] := ⟨_, rfl⟩
      have q0 := ((below_of_none GG.out).cell (p := ⟨ba, off + i, none⟩) hbb).trans (hcell i hib)
      rw [← hcv] at q0
      obtain ⟨x, hx⟩ : ∃ x, (c.toNat : Int) = x := ⟨_, rfl⟩
      have HX := Lib.hid hx
      rw [hx] at q0
      have hwi : IntKind.i64.wrap ((i : Int) + 1) = (i : Int) + 1 := by simp [IntKind.wrap, IntKind.bits, IntKind.signed]; omega
      by_cases h255 : c.toNat = 255
      · have e255 : (x == 255) = true := by rw [beq_iff_eq]; omega
        obtain ⟨P1, P2⟩ := HI.out.iac hib (by rw [← hcv]; exact h255)
        by_cases hj : i + 1 < n
        · obtain ⟨P3, P4, P5⟩ := P2 (by rw [HN.out]; exact hj)
          obtain ⟨c2, hc2⟩ : ∃ c2, c2 = b[i + 1]'(by rw [HN.out]; exact hj) := ⟨_, rfl⟩
          have q1 := ((below_of_none GG.out).cell (p := ⟨ba, off + (i + 1), none⟩) hbb).trans (hcell (i + 1) (by rw [HN.out]; exact hj))
          rw [← hc2] at q1 P3 P4 P5
          rw [← hcv] at P5
          obtain ⟨y, hy⟩ : ∃ y, (c2.toNat : Int) = y := ⟨_, rfl⟩
          rw [hy] at q1
          have hji : ¬ (n : Int) ≤ (i : Int) + 1 := by omega
          have hjl : (i : Int) + 1 < (n : Int) := by omega
          have hj0 : (0 : Int) ≤ (i : Int) + 1 := by omega
          have hwi2 : IntKind.i64.wrap ((i : Int) + 1 + 1) = (i : Int) + 1 + 1 := by simp [IntKind.wrap, IntKind.bits, IntKind.signed]; omega
          have htn : ((i : Int) + 1).toNat = i + 1 := by omega
          by_cases h240 : c2.toNat = 240
          · have e240 : (y == 240) = true := by rw [beq_iff_eq]; omega
            have HT := Lib.hid (P3 h240)
            clear P1 P2 P3 P4 P5 hcell hcv hc2 hx hy
            go_wp2_with (first
              | (refine wpList_loadC (off := 0) (p := [.int .i64 3, .int .i64 0, .int .i64 0, .slice V dn vc]) aggT4 rfl (.tmp 7) rfl DD.out rfl (by simp) (by first | rfl | go_simp) ?_)
              | (refine wpList_storeC (off := 0) (p := [.int .i64 3, .int .i64 0, .int .i64 0, .slice V dn vc]) szT rfl (.tmp 4) (.tmp 36) rfl (.agg #[.int .i64 3, .int .i64 0, .int .i64 0, .slice V dn vc]) rfl (fun u hu => by simp at hu; rcases hu with rfl | rfl | rfl | rfl <;> rfl) CC.out rfl (by simp) (by first | rfl | go_simp) (by first | rfl | go_simp) ?_
                 intro w5 h5 g5
                 have C5 := Lib.hid (show CB w5 g0 24 [.int .i64 3, .int .i64 0, .int .i64 0, .slice V dn vc] from h5)
                 have O5 := Lib.hid (OV.out.mod (Mod.of_grown g5) (fun z hz e => by injection e with e; subst e; exact OV.out.ne_cells CC.out (by decide) hz))
                 have G5 := Lib.hid (grown_row GG.out g5 (fun z hz => by injection hz with hz; have := HG0.out; omega))
                 clear h5 g5))
            refine bodyPost_ret (results_C3 rfl _ aggT4 C5.out rfl (by first | rfl | go_simp)) rfl ?_
            exact ⟨.slice V dn vc, data, _, _, rfl, by first | exact HT.out | (have h := HT.out; simpa using h) | (have h := HT.out; rw [show ((i + 2 : Nat) : Int) = (i : Int) + 1 + 1 by omega] at h; exact h), O5.out, by rw [HDN.out]; exact hd3, G5.out⟩
          · have e240 : (y == 240) = false := by rw [beq_eq_false_iff_ne]; omega
            by_cases hy5 : c2.toNat = 255
            · have e5 : (y == 255) = true := by rw [beq_iff_eq]; omega
              obtain ⟨P6, P7⟩ := P5 hy5
              by_cases hl : dn = 3000
              · have hli : (3000 : Int) ≤ (dn : Int) := by omega
                have HT := Lib.hid (P6 (HDN.out.trans hl))
                clear P1 P2 P3 P4 P5 P6 P7 hcell hcv hc2 hx hy
                go_wp2_with (first
                  | (refine wpList_loadC (off := 0) (p := [.int .i64 3, .int .i64 0, .int .i64 0, .slice V dn vc]) aggT4 rfl (.tmp 7) rfl DD.out rfl (by simp) (by first | rfl | go_simp) ?_)
                  | (refine wpList_storeC (off := 0) (p := [.int .i64 3, .int .i64 0, .int .i64 0, .slice V dn vc]) szT rfl (.tmp 4) (.tmp 49) rfl (.agg #[.int .i64 3, .int .i64 0, .int .i64 0, .slice V dn vc]) rfl (fun u hu => by simp at hu; rcases hu with rfl | rfl | rfl | rfl <;> rfl) CC.out rfl (by simp) (by first | rfl | go_simp) (by first | rfl | go_simp) ?_
                     intro w5 h5 g5
                     have C5 := Lib.hid (show CB w5 g0 24 [.int .i64 3, .int .i64 0, .int .i64 0, .slice V dn vc] from h5)
                     have O5 := Lib.hid (OV.out.mod (Mod.of_grown g5) (fun z hz e => by injection e with e; subst e; exact OV.out.ne_cells CC.out (by decide) hz))
                     have G5 := Lib.hid (grown_row GG.out g5 (fun z hz => by injection hz with hz; have := HG0.out; omega))
                     clear h5 g5))
                refine bodyPost_ret (results_C3 rfl _ aggT4 C5.out rfl (by first | rfl | go_simp)) rfl ?_
                exact ⟨.slice V dn vc, data, _, _, rfl, by first | exact HT.out | (have h := HT.out; simpa using h) | (have h := HT.out; rw [show ((i + 2 : Nat) : Int) = (i : Int) + 1 + 1 by omega] at h; exact h), O5.out, by rw [HDN.out]; exact hd3, G5.out⟩
              · have hli : ¬ (3000 : Int) ≤ (dn : Int) := by omega
                have HT := Lib.hid (P7 (by rw [HDN.out]; exact hl))
                clear P1 P2 P3 P4 P5 P6 P7 hcell hcv hc2 hx hy
                go_wp2_with (first
                  | (at_builtin
                     refine wpList_appB byteT rfl (.tmp 51) (.tmp 53) rfl (OwnB.none_ OV.out (grown_alloc _ _ none)) (rb1 _ _ c _ HX.out.symm) (by first | rfl | go_simp) (by first | rfl | go_simp) (by rw [HDN.out]; simp; omega) (by rw [World.size_alloc]; have := GG.out.size; omega) ?_
                     intro v2 w2 o2 g2 _ a2
                     have O2a := Lib.hid o2
                     have D2 := Lib.hid ((DD.out.alloc _).mod (Mod.of_grown g2) (fun e => OV.out.ne_cells DD.out (by decide) e.symm))
                     have C2 := Lib.hid ((CC.out.alloc _).mod (Mod.of_grown g2) (fun e => OV.out.ne_cells CC.out (by decide) e.symm))
                     have G2 := Lib.hid (grown_row (grown_trans' GG.out (grown_alloc _ _ none)) g2 (fun z hz => (OV.out.lt z hz).1))
                     clear o2 g2 a2)
                  | (refine wpList_storeC (off := 3) (p := [v2]) szB rfl (.tmp 55) (.tmp 54) rfl v2 (by obtain ⟨_, _, hx, _⟩ := O2a.out.shape; rw [hx]; rfl) (fun u hu => by rw [List.mem_singleton.1 hu]; obtain ⟨_, _, hx, _⟩ := O2a.out.shape; rw [hx]; rfl) D2.out rfl (by simp) (by first | rfl | go_simp) (by first | rfl | go_simp) ?_
                     intro w3 h3 g3
                     have D3 := Lib.hid (show CB w3 (g0 + 1) 24 [.int .i64 3, .int .i64 0, .int .i64 0, v2] from h3)
                     have C3 := Lib.hid (C2.out.mod (Mod.of_grown g3) (fun e => by injection e with e; omega))
                     have O2 := Lib.hid (O2a.out.mod (Mod.of_grown g3) (fun z hz e => by injection e with e; subst e; exact O2a.out.ne_cells D2.out (by decide) hz))
                     have G3 := Lib.hid (grown_row G2.out g3 (fun z hz => by injection hz with hz; have := HG0.out; omega))
                     clear h3 g3))
                go_roundw
                case rel => exact ⟨i + 2, v2, data ++ [c], by go_num, by omega, HT.out, O2.out, D3.out, C3.out, G3.out⟩
                case measure => simp [intOf]; omega
            · have e5 : (y == 255) = false := by rw [beq_eq_false_iff_ne]; omega
              have HT := Lib.hid (P4 h240 hy5)
              clear P1 P2 P3 P4 P5 hcell hcv hc2 hx hy
              go_wp2_with (first
                | (refine wpList_loadC (off := 0) (p := [.int .i64 3, .int .i64 0, .int .i64 0, .slice V dn vc]) aggT4 rfl (.tmp 7) rfl DD.out rfl (by simp) (by first | rfl | go_simp) ?_)
                | (refine wpList_storeC (off := 0) (p := [.int .i64 3, .int .i64 0, .int .i64 0, .slice V dn vc]) szT rfl (.tmp 4) (.tmp 44) rfl (.agg #[.int .i64 3, .int .i64 0, .int .i64 0, .slice V dn vc]) rfl (fun u hu => by simp at hu; rcases hu with rfl | rfl | rfl | rfl <;> rfl) CC.out rfl (by simp) (by first | rfl | go_simp) (by first | rfl | go_simp) ?_
                   intro w5 h5 g5
                   have C5 := Lib.hid (show CB w5 g0 24 [.int .i64 3, .int .i64 0, .int .i64 0, .slice V dn vc] from h5)
                   have O5 := Lib.hid (OV.out.mod (Mod.of_grown g5) (fun z hz e => by injection e with e; subst e; exact OV.out.ne_cells CC.out (by decide) hz))
                   have G5 := Lib.hid (grown_row GG.out g5 (fun z hz => by injection hz with hz; have := HG0.out; omega))
                   clear h5 g5))
              refine bodyPost_ret (results_C3 rfl _ aggT4 C5.out rfl (by first | rfl | go_simp)) rfl ?_
              exact ⟨.slice V dn vc, data, _, _, rfl, by first | exact HT.out | (have h := HT.out; simpa using h) | (have h := HT.out; rw [show ((i + 2 : Nat) : Int) = (i : Int) + 1 + 1 by omega] at h; exact h), O5.out, by rw [HDN.out]; exact hd3, G5.out⟩
        · have hji : (n : Int) ≤ (i : Int) + 1 := by omega
          have HT := Lib.hid (P1 (by rw [HN.out]; exact hj))
          clear P1 P2 hcell hcv hx
          go_wp2_with (first
            | (refine wpList_loadC (off := 0) (p := [.int .i64 3, .int .i64 0, .int .i64 0, .slice V dn vc]) aggT4 rfl (.tmp 7) rfl DD.out rfl (by simp) (by first | rfl | go_simp) ?_)
            | (refine wpList_storeC (off := 0) (p := [.int .i64 3, .int .i64 0, .int .i64 0, .slice V dn vc]) szT rfl (.tmp 4) (.tmp 30) rfl (.agg #[.int .i64 3, .int .i64 0, .int .i64 0, .slice V dn vc]) rfl (fun u hu => by simp at hu; rcases hu with rfl | rfl | rfl | rfl <;> rfl) CC.out rfl (by simp) (by first | rfl | go_simp) (by first | rfl | go_simp) ?_
               intro w5 h5 g5
               have C5 := Lib.hid (show CB w5 g0 24 [.int .i64 3, .int .i64 0, .int .i64 0, .slice V dn vc] from h5)
               have O5 := Lib.hid (OV.out.mod (Mod.of_grown g5) (fun z hz e => by injection e with e; subst e; exact OV.out.ne_cells CC.out (by decide) hz))
               have G5 := Lib.hid (grown_row GG.out g5 (fun z hz => by injection hz with hz; have := HG0.out; omega))
               clear h5 g5))
          refine bodyPost_ret (results_C3 rfl _ aggT4 C5.out rfl (by first | rfl | go_simp)) rfl ?_
          exact ⟨.slice V dn vc, data, _, _, rfl, by first | exact HT.out | (have h := HT.out; simpa using h) | (have h := HT.out; rw [show ((i + 2 : Nat) : Int) = (i : Int) + 1 + 1 by omega] at h; exact h), O5.out, by rw [HDN.out]; exact hd3, G5.out⟩
      · have e255 : (x == 255) = false := by rw [beq_eq_false_iff_ne]; omega
        obtain ⟨P1, P2⟩ := HI.out.plain hib (by rw [← hcv]; exact h255)
        rw [← hcv] at P2
        by_cases hl : dn = 3000
        · have hli : (3000 : Int) ≤ (dn : Int) := by omega
          have HT := Lib.hid (P1 (HDN.out.trans hl))
          clear P1 P2 hcell hcv hx
          go_wp2_with (first
            | (refine wpList_loadC (off := 0) (p := [.int .i64 3, .int .i64 0, .int .i64 0, .slice V dn vc]) aggT4 rfl (.tmp 7) rfl DD.out rfl (by simp) (by first | rfl | go_simp) ?_)
            | (refine wpList_storeC (off := 0) (p := [.int .i64 3, .int .i64 0, .int .i64 0, .slice V dn vc]) szT rfl (.tmp 4) (.tmp 49) rfl (.agg #[.int .i64 3, .int .i64 0, .int .i64 0, .slice V dn vc]) rfl (fun u hu => by simp at hu; rcases hu with rfl | rfl | rfl | rfl <;> rfl) CC.out rfl (by simp) (by first | rfl | go_simp) (by first | rfl | go_simp) ?_
               intro w5 h5 g5
               have C5 := Lib.hid (show CB w5 g0 24 [.int .i64 3, .int .i64 0, .int .i64 0, .slice V dn vc] from h5)
               have O5 := Lib.hid (OV.out.mod (Mod.of_grown g5) (fun z hz e => by injection e with e; subst e; exact OV.out.ne_cells CC.out (by decide) hz))
               have G5 := Lib.hid (grown_row GG.out g5 (fun z hz => by injection hz with hz; have := HG0.out; omega))
               clear h5 g5))
          refine bodyPost_ret (results_C3 rfl _ aggT4 C5.out rfl (by first | rfl | go_simp)) rfl ?_
          exact ⟨.slice V dn vc, data, _, _, rfl, by first | exact HT.out | (have h := HT.out; simpa using h) | (have h := HT.out; rw [show ((i + 2 : Nat) : Int) = (i : Int) + 1 + 1 by omega] at h; exact h), O5.out, by rw [HDN.out]; exact hd3, G5.out⟩
        · have hli : ¬ (3000 : Int) ≤ (dn : Int) := by omega
          have HT := Lib.hid (P2 (by rw [HDN.out]; exact hl))
          clear P1 P2 hcell hcv hx
          go_wp2_with (first
            | (at_builtin
               refine wpList_appB byteT rfl (.tmp 51) (.tmp 53) rfl (OwnB.none_ OV.out (grown_alloc _ _ none)) (rb1 _ _ c _ HX.out.symm) (by first | rfl | go_simp) (by first | rfl | go_simp) (by rw [HDN.out]; simp; omega) (by rw [World.size_alloc]; have := GG.out.size; omega) ?_
               intro v2 w2 o2 g2 _ a2
               have O2a := Lib.hid o2
               have D2 := Lib.hid ((DD.out.alloc _).mod (Mod.of_grown g2) (fun e => OV.out.ne_cells DD.out (by decide) e.symm))
               have C2 := Lib.hid ((CC.out.alloc _).mod (Mod.of_grown g2) (fun e => OV.out.ne_cells CC.out (by decide) e.symm))
               have G2 := Lib.hid (grown_row (grown_trans' GG.out (grown_alloc _ _ none)) g2 (fun z hz => (OV.out.lt z hz).1))
               clear o2 g2 a2)
            | (refine wpList_storeC (off := 3) (p := [v2]) szB rfl (.tmp 55) (.tmp 54) rfl v2 (by obtain ⟨_, _, hx, _⟩ := O2a.out.shape; rw [hx]; rfl) (fun u hu => by rw [List.mem_singleton.1 hu]; obtain ⟨_, _, hx, _⟩ := O2a.out.shape; rw [hx]; rfl) D2.out rfl (by simp) (by first | rfl | go_simp) (by first | rfl | go_simp) ?_
               intro w3 h3 g3
               have D3 := Lib.hid (show CB w3 (g0 + 1) 24 [.int .i64 3, .int .i64 0, .int .i64 0, v2] from h3)
               have C3 := Lib.hid (C2.out.mod (Mod.of_grown g3) (fun e => by injection e with e; omega))
               have O2 := Lib.hid (O2a.out.mod (Mod.of_grown g3) (fun z hz e => by injection e with e; subst e; exact O2a.out.ne_cells D2.out (by decide) hz))
               have G3 := Lib.hid (grown_row G2.out g3 (fun z hz => by injection hz with hz; have := HG0.out; omega))
               clear h3 g3))
          go_roundw
          case rel => exact ⟨i + 1, v2, data ++ [c], by go_num, by omega, HT.out, O2.out, D3.out, C3.out, G3.out⟩
          case measure => simp [intOf]; omega
    · obtain rfl : i = n := by omega
      have hii : ¬ (i : Int) < (i : Int) := by omega
      have HT := Lib.hid (HI.out.done (by rw [HN.out]; exact Nat.le_refl _))
      go_wp2_with (first
        | (refine wpList_loadC (off := 0) (p := [.int .i64 3, .int .i64 0, .int .i64 0, .slice V dn vc]) aggT4 rfl (.tmp 7) rfl DD.out rfl (by simp) (by first | rfl | go_simp) ?_)
        | (refine wpList_storeC (off := 0) (p := [.int .i64 3, .int .i64 0, .int .i64 0, .slice V dn vc]) szT rfl (.tmp 4) (.tmp 56) rfl (.agg #[.int .i64 3, .int .i64 0, .int .i64 0, .slice V dn vc]) rfl (fun u hu => by simp at hu; rcases hu with rfl | rfl | rfl | rfl <;> rfl) CC.out rfl (by simp) (by first | rfl | go_simp) (by first | rfl | go_simp) ?_
           intro w5 h5 g5
           have C5 := Lib.hid (show CB w5 g0 24 [.int .i64 3, .int .i64 0, .int .i64 0, .slice V dn vc] from h5)
           have O5 := Lib.hid (OV.out.mod (Mod.of_grown g5) (fun z hz e => by injection e with e; subst e; exact OV.out.ne_cells CC.out (by decide) hz))
           have G5 := Lib.hid (grown_row GG.out g5 (fun z hz => by injection hz with hz; have := HG0.out; omega))
           clear h5 g5))
      refine bodyPost_ret (results_C3 rfl _ aggT4 C5.out rfl (by first | rfl | go_simp)) rfl ?_
      exact ⟨.slice V dn vc, data, _, _, rfl, by first | exact HT.out | (have h := HT.out; simpa using h) | (have h := HT.out; rw [show ((i + 2 : Nat) : Int) = (i : Int) + 1 + 1 by omega] at h; exact h), O5.out, by rw [HDN.out]; exact hd3, G5.out⟩
end Go.Proofs.Ytcfhpoigfkljpaa
