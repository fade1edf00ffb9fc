/- The walk of the Hasher's mix. -/
import Derived.Test.YtndnmjolcilamaaDoorSch
namespace Go.Proofs.YtndnmjolcilamaaDoor
open Go.RowKit

def roundK : List UInt32 := [0x428a2f98, 0x71374491, 0xb5c0fbcf, 0xe9b5dba5, 0x3956c25b, 0x59f111f1, 0x923f82a4, 0xab1c5ed5, 0xd807aa98, 0x12835b01, 0x243185be, 0x550c7dc3, 0x72be5d74, 0x80deb1fe, 0x9bdc06a7, 0xc19bf174, 0xe49b69c1, 0xefbe4786, 0x0fc19dc6, 0x240ca1cc, 0x2de92c6f, 0x4a7484aa, 0x5cb0a9dc, 0x76f988da, 0x983e5152, 0xa831c66d, 0xb00327c8, 0xbf597fc7, 0xc6e00bf3, 0xd5a79147, 0x06ca6351, 0x14292967, 0x27b70a85, 0x2e1b2138, 0x4d2c6dfc, 0x53380d13, 0x650a7354, 0x766a0abb, 0x81c2c92e, 0x92722c85, 0xa2bfe8a1, 0xa81a664b, 0xc24b8b70, 0xc76c51a3, 0xd192e819, 0xd6990624, 0xf40e3585, 0x106aa070, 0x19a4c116, 0x1e376c08, 0x2748774c, 0x34b0bcb5, 0x391c0cb3, 0x4ed8aa4a, 0x5b9cca4f, 0x682e6ff3, 0x748f82ee, 0x78a5636f, 0x84c87814, 0x8cc70208, 0x90befffa, 0xa4506ceb, 0xbef9a3f7, 0xc67178f2]
theorem roundK_length : roundK.length = 64 := rfl

/-- The eight words of the rounds. -/
structure S8 where
  (a b c d e f g h : UInt32)
def S8.list (s : S8) : List UInt32 := [s.a, s.b, s.c, s.d, s.e, s.f, s.g, s.h]
def s8of (ws : List UInt32) : S8 := ⟨ws.getD 0 0, ws.getD 1 0, ws.getD 2 0, ws.getD 3 0, ws.getD 4 0, ws.getD 5 0, ws.getD 6 0, ws.getD 7 0⟩
def lowOf (s : S8) (K x : UInt32) : UInt32 := s.h + sLow s.e + chs s.e s.f s.g + K + x
def highOf (s : S8) : UInt32 := sHigh s.a + maj s.a s.b s.c
def stepS (s : S8) (K x : UInt32) : S8 := ⟨lowOf s K x + highOf s, s.a, s.b, s.c, s.d + lowOf s K x, s.e, s.f, s.g⟩
def roundsTo (ws sch : List UInt32) : Nat → S8
  | 0 => s8of ws
  | k + 1 => stepS (roundsTo ws sch k) (roundK.getD k 0) (sch.getD k 0)
def finOf (ws : List UInt32) (bl : List UInt8) : List UInt32 := (roundsTo ws (sched bl) 64).list
def compress (ws : List UInt32) (bl : List UInt8) : List UInt32 := (List.range 8).map fun i => ws.getD i 0 + (finOf ws bl).getD i 0
theorem compress_length (ws : List UInt32) (bl : List UInt8) : (compress ws bl).length = 8 := by simp [compress]

/-- The table of the rounds' words lies where it lies. -/
def TB (w : World) : Prop := ∀ k u, roundK[k]? = some u → w.cell? ⟨0, k, none⟩ = some (.int .u32 (u.toNat : Int))
theorem TB.lt {w : World} (h : TB w) : 0 < w.heap.size := World.block_lt_of_cell? w _ (h 0 _ rfl)
theorem TB.grown {w w' : World} {r : Option Nat} (h : TB w) (hg : w.grownBy w' r) (hr : r ≠ some 0) : TB w' := fun k u hu =>
  (World.cell?_of_block (hg.block 0 h.lt (fun e => hr e.symm))).trans (h k u hu)

/-- The cells of a Hasher. -/
def hcells (ws : List UInt32) (bl : List UInt8) (c : Nat) : List Value := wcells ws ++ bcells bl ++ [.int .u64 (c : Int)]
section
variable {ws : List UInt32} {bl : List UInt8} {c : Nat}
theorem hcells_length (hw : ws.length = 8) (hb : bl.length = 64) : (hcells ws bl c).length = 73 := by
  simp [hcells, wcells_length, bcells_length, hw, hb]
theorem hcells_word (_hw : ws.length = 8) {i : Nat} {u : UInt32} (h : ws[i]? = some u) : (hcells ws bl c)[i]? = some (.int .u32 (u.toNat : Int)) := by
  have hi : i < ws.length := (List.getElem?_eq_some_iff.1 h).1
  rw [hcells, List.append_assoc, List.getElem?_append_left (by rw [wcells_length]; exact hi)]
  exact wcells_some h
theorem hcells_block (hw : ws.length = 8) (hb : bl.length = 64) : ((hcells ws bl c).drop 8).take 64 = bcells bl := by
  rw [hcells, List.append_assoc, List.drop_left' (by rw [wcells_length, hw]), List.take_left' (by rw [bcells_length, hb])]
theorem hcells_count (hw : ws.length = 8) (hb : bl.length = 64) : (hcells ws bl c)[72]? = some (.int .u64 (c : Int)) := by
  rw [hcells, List.getElem?_append_right (by rw [List.length_append, wcells_length, bcells_length, hw, hb]; omega), List.length_append, wcells_length, bcells_length, hw, hb]
  rfl
theorem hcells_setw (hw : ws.length = 8) (i : Nat) (hi : i < 8) (u : UInt32) : (hcells ws bl c).set i (.int .u32 (u.toNat : Int)) = hcells (ws.set i u) bl c := by
  rw [hcells, List.append_assoc, List.set_append_left _ _ (by rw [wcells_length, hw]; exact hi), wcells_set, ← List.append_assoc]
  rfl
theorem hcells_setc (hw : ws.length = 8) (hb : bl.length = 64) (c' : Nat) : (hcells ws bl c).set 72 (.int .u64 (c' : Int)) = hcells ws bl c' := by
  rw [hcells, List.set_append_right _ _ (by rw [List.length_append, wcells_length, bcells_length, hw, hb]; omega), List.length_append, wcells_length, bcells_length, hw, hb]
  rfl
theorem hcells_wget (hw : ws.length = 8) (i : Nat) (hi : i < 8) : (hcells ws bl c)[i]? = some (.int .u32 ((ws.getD i 0).toNat : Int)) := by
  have h := List.getElem?_eq_getElem (l := ws) (i := i) (by omega)
  rw [hcells_word hw h, getD_some h]
end

/-- 'a[i]' of an array of words by value. -/
theorem run_indexW {P : Program} {t e : TypeId} {n : Nat} (ht : P.underlying t = some (.array n e)) (he : (P.info? e).map (·.size) = some 1) (hu8 : P.underlying e = some (.int .u32)) {l : List UInt32} (hl : l.length = n) {k : Nat} {u : UInt32} (hu : l[k]? = some u) (w : World) :
    (Instr.index t (.agg (wcells l).toArray) (.int .i64 (k : Int))).run P w = .ok (.int .u32 (u.toNat : Int)) w := by
  have hk : k < l.length := (List.getElem?_eq_some_iff.1 hu).1
  have hn : (0 : Int) ≤ (k : Int) ∧ (k : Int) < (n : Int) := by omega
  have hkn : k < n := by omega
  have hag : ∀ w, (isAgg e).run P w = .ok false w := by
    intro w
    unfold isAgg
    rw [Sem.run_bind, run_underlying hu8 w]
    rfl
  have hc : (wcells l)[k]? = some (.int .u32 (u.toNat : Int)) := wcells_some hu
  cases hq : P.info? e with
  | none => simp [hq] at he
  | some i =>
    have hi : i.size = 1 := by simpa [hq] using he
    simp [Instr.index, run_underlying ht, asIntOf, hkn, go_sem, sizeOf, typeInfo, hq, hi, hag, hc]

theorem aggB64 : AggT Tryd.prog 76 64 := ⟨fun _ => by kernel_rfl, by kernel_rfl⟩

set_option maxRecDepth 10000 in
set_option maxHeartbeats 1000000 in
theorem mix_any (g c : Nat) (ws : List UInt32) (bl : List UInt8) (w : World) (hT : TB w) (hg0 : g ≠ 0) (hw : ws.length = 8) (hb : bl.length = 64) (h : CB w g 109 (hcells ws bl c)) :
    Calls Tryd.prog 70 #[.pointer (some ⟨g, 0, none⟩)] w fun e w' => e = .returned (.tuple #[]) ∧ CB w' g 109 (hcells (compress ws bl) bl c) ∧ w.grownBy w' (some g) := by
  have HT := Lib.hid hT
  have HG0 := Lib.hid hg0
  have HWL := Lib.hid hw
  have HBL := Lib.hid hb
  have H := Lib.hid h
  have c0 := h.at_ (hcells_wget hw 0 (by omega))
  have c1 := h.at_ (hcells_wget hw 1 (by omega))
  have c2 := h.at_ (hcells_wget hw 2 (by omega))
  have c3 := h.at_ (hcells_wget hw 3 (by omega))
  obtain ⟨S, hS⟩ : ∃ S, S = s8of ws := ⟨_, rfl⟩
  have ha : ws.getD 0 0 = S.a := by rw [hS]; rfl
  have hb' : ws.getD 1 0 = S.b := by rw [hS]; rfl
  have hc' : ws.getD 2 0 = S.c := by rw [hS]; rfl
  have hd : ws.getD 3 0 = S.d := by rw [hS]; rfl
  rw [ha] at c0
  rw [hb'] at c1
  rw [hc'] at c2
  rw [hd] at c3
  have HS := Lib.hid hS
  clear hT hg0 hw hb h ha hb' hc' hd hS
  go_enter Tryd.func70, Tryd.ntmps70
  go_wp2
  go_quiet (fail)
  have H2' : CB (w.drewN nq) g 109 (hcells ws bl c) := H.out
  have G2' : w.grownBy (w.drewN nq) (some g) := ⟨rfl, rfl, rfl, Nat.le_refl _, fun _ _ _ => rfl⟩
  clear c0 c1 c2 c3
  have H2 := Lib.hid H2'
  have G2 := Lib.hid G2'
  clear H2' G2'
  generalize w.drewN nq = w1 at *
  have c4 := H2.out.at_ (hcells_wget HWL.out 4 (by omega))
  have c5 := H2.out.at_ (hcells_wget HWL.out 5 (by omega))
  have c6 := H2.out.at_ (hcells_wget HWL.out 6 (by omega))
  have c7 := H2.out.at_ (hcells_wget HWL.out 7 (by omega))
  have ha : ws.getD 4 0 = S.e := by rw [HS.out]; rfl
  have hb' : ws.getD 5 0 = S.f := by rw [HS.out]; rfl
  have hc' : ws.getD 6 0 = S.g := by rw [HS.out]; rfl
  have hd : ws.getD 7 0 = S.h := by rw [HS.out]; rfl
  rw [ha] at c4
  rw [hb'] at c5
  rw [hc'] at c6
  rw [hd] at c7
  clear ha hb' hc' hd
  go_wp2
  go_quiet (fail)
  have H3' : CB (w1.drewN nq) g 109 (hcells ws bl c) := H2.out
  have G3' : w1.grownBy (w1.drewN nq) (some g) := ⟨rfl, rfl, rfl, Nat.le_refl _, fun _ _ _ => rfl⟩
  clear c4 c5 c6 c7
  have H3 := Lib.hid H3'
  have G3 := Lib.hid (grown_trans' G2.out G3')
  clear H3' G3'
  generalize w1.drewN nq = w2 at *
  go_wp2_with (first
    | refine wpList_loadC (p := bcells bl) aggB64 rfl (.tmp 58) rfl H3.out (hcells_block HWL.out HBL.out) (by rw [hcells_length HWL.out HBL.out]; omega) rfl ?_
    | (go_at_call 81; refine (schedule_any bl HBL.out _).mono ?_; rintro e w3 ⟨rfl, hg3⟩; have H4 := Lib.hid (H3.out.kept hg3); have G4 := Lib.hid (grown_trans' G3.out (grown_some hg3 g)); clear hg3))
  obtain ⟨X, hX⟩ : ∃ X, X = sched bl := ⟨_, rfl⟩
  rw [← hX]
  have HX := Lib.hid hX
  clear hX
  go_loopw [2, 3, 4, 5, 6, 7, 8, 9, 61] (fun va vb vc vd ve vf vg vh i wr => ∃ (k : Nat) (s : S8), i = .int .i64 k ∧ k ≤ 64 ∧ s = roundsTo ws X k ∧ va = .int .u32 (s.a.toNat : Int) ∧ vb = .int .u32 (s.b.toNat : Int) ∧ vc = .int .u32 (s.c.toNat : Int) ∧ vd = .int .u32 (s.d.toNat : Int) ∧
    ve = .int .u32 (s.e.toNat : Int) ∧ vf = .int .u32 (s.f.toNat : Int) ∧ vg = .int .u32 (s.g.toNat : Int) ∧ vh = .int .u32 (s.h.toNat : Int) ∧ CB wr g 109 (hcells ws bl c) ∧ w.grownBy wr (some g)) (fun _ _ _ _ _ _ _ _ i _ => 64 - (intOf i).toNat)
  case atStart => exact ⟨0, S, rfl, by omega, HS.out, rfl, rfl, rfl, rfl, rfl, rfl, rfl, rfl, H4.out, G4.out⟩
  case round =>
    obtain ⟨k, s, rfl, hk, hs, rfl, rfl, rfl, rfl, rfl, rfl, rfl, rfl, hC, hG⟩ := hrel
    by_cases hlt : k < 64
    · obtain ⟨x, hx⟩ : ∃ u, X[k]? = some u := ⟨_, List.getElem?_eq_getElem (by rw [HX.out, sched_length]; omega)⟩
      obtain ⟨K, hK⟩ : ∃ u, roundK[k]? = some u := ⟨_, List.getElem?_eq_getElem (by rw [roundK_length]; omega)⟩
      have hix := run_indexW Tryd.underlying91 sz32 Tryd.underlying90 (by rw [HX.out, sched_length]) hx
      have hT2 := HT.out.grown hG (fun e => HG0.out (by injection e))
      have ck := hT2 k K hK
      have hn : stepS s K x = roundsTo ws X (k + 1) := by rw [roundsTo, ← hs, getD_some hK, getD_some hx]
      have HN := Lib.hid hn
      have HC := Lib.hid hC
      have HG := Lib.hid hG
      have hki : (k : Int) < 64 := by omega
      have hd1 := fun W => mixLow_any s.e W
      have hd2 := fun W => choose_any s.e s.f s.g W
      have hd3 := fun W => mixHigh_any s.a W
      have hd4 := fun W => majority_any s.a s.b s.c W
      have a1 := add_u32w s.h (sLow s.e)
      have a2 := add_u32w (s.h + sLow s.e) (chs s.e s.f s.g)
      have a3 := add_u32w (s.h + sLow s.e + chs s.e s.f s.g) K
      have a4 := add_u32w (s.h + sLow s.e + chs s.e s.f s.g + K) x
      rw [show s.h + sLow s.e + chs s.e s.f s.g + K + x = lowOf s K x from rfl] at a4
      have a5 := add_u32w (sHigh s.a) (maj s.a s.b s.c)
      rw [show sHigh s.a + maj s.a s.b s.c = highOf s from rfl] at a5
      have a6 := add_u32w s.d (lowOf s K x)
      have a7 := add_u32w (lowOf s K x) (highOf s)
      have hst : stepS s K x = ⟨lowOf s K x + highOf s, s.a, s.b, s.c, s.d + lowOf s K x, s.e, s.f, s.g⟩ := rfl
      have HST := Lib.hid hst
      clear hn hC hG hT2 hx hK hs hst
      generalize lowOf s K x + highOf s = z7 at *
      generalize s.d + lowOf s K x = z6 at *
      generalize highOf s = z5 at *
      generalize lowOf s K x = z4 at *
      generalize s.h + sLow s.e + chs s.e s.f s.g + K = z3 at *
      generalize s.h + sLow s.e + chs s.e s.f s.g = z2 at *
      generalize s.h + sLow s.e = z1 at *
      generalize sLow s.e = y1 at *
      generalize chs s.e s.f s.g = y2 at *
      generalize sHigh s.a = y3 at *
      generalize maj s.a s.b s.c = y4 at *
      have HD1 := Lib.hid hd1
      have HD2 := Lib.hid hd2
      have HD3 := Lib.hid hd3
      have HD4 := Lib.hid hd4
      clear hd1 hd2 hd3 hd4
      go_wp2
      go_quiet ((first | (go_at_call 82; with_reducible exact Calls.quiet_of_same ((HD1.out _).mono fun _ _ h => And.intro h.1 h.2.symm)) | (go_at_call 83; with_reducible exact Calls.quiet_of_same ((HD2.out _).mono fun _ _ h => And.intro h.1 h.2.symm))))
      have HCz := Lib.hid (show CB (wr.drewN nq) g 109 (hcells ws bl c) from HC.out)
      have HGz := Lib.hid (grown_trans' HG.out (show wr.grownBy (wr.drewN nq) (some g) from ⟨rfl, rfl, rfl, Nat.le_refl _, fun _ _ _ => rfl⟩))
      clear ck hix a1 a2 a3 a4
      generalize wr.drewN nq = wz at *
      go_wp2_with (first
        | (go_at_call 84; refine (HD3.out _).mono ?_; rintro e w5 ⟨rfl, rfl⟩)
        | (go_at_call 85; refine (HD4.out _).mono ?_; rintro e w5 ⟨rfl, rfl⟩))
      go_roundw
      case rel => exact ⟨k + 1, stepS s K x, by go_num, by omega, HN.out, by rw [HST.out], by rw [HST.out], by rw [HST.out], by rw [HST.out], by rw [HST.out], by rw [HST.out], by rw [HST.out], by rw [HST.out], HCz.out, HGz.out⟩
      case measure => simp [intOf]; omega
    · obtain rfl : k = 64 := by omega
      have HF := Lib.hid (show finOf ws bl = [s.a, s.b, s.c, s.d, s.e, s.f, s.g, s.h] by rw [finOf, ← HX.out, ← hs]; rfl)
      have HC := Lib.hid hC
      have HG := Lib.hid hG
      clear hC hG hs hk hlt
      rw [show ((64 : Nat) : Int) = 64 from rfl]
      obtain ⟨wo, rfl⟩ : ∃ wo : World, wo = wr := ⟨_, rfl⟩
      go_wp2
      rw [show (#[.int .u32 (s.a.toNat : Int), .int .u32 (s.b.toNat : Int), .int .u32 (s.c.toNat : Int), .int .u32 (s.d.toNat : Int), .int .u32 (s.e.toNat : Int), .int .u32 (s.f.toNat : Int), .int .u32 (s.g.toNat : Int), .int .u32 (s.h.toNat : Int)] : Array Value) = (wcells (finOf ws bl)).toArray by rw [HF.out]; rfl]
      have HFL := Lib.hid (show (finOf ws bl).length = 8 by rw [HF.out]; rfl)
      obtain ⟨F, hF⟩ : ∃ F, F = finOf ws bl := ⟨_, rfl⟩
      rw [← hF] at HFL ⊢
      have HFE := Lib.hid hF
      clear hF HF
      have hll : (compress ws bl).length = ws.length := by rw [compress_length, HWL.out]
      have HLL := Lib.hid hll
      clear hll
      go_loopw [109] (fun i wr => ∃ k : Nat, i = .int .i64 k ∧ k ≤ 8 ∧ CB wr g 109 (hcells (mix (compress ws bl) ws k) bl c) ∧ w.grownBy wr (some g)) (fun i _ => 8 - (intOf i).toNat)
      case atStart => exact ⟨0, rfl, by omega, by rw [mix_zero]; exact HC.out, HG.out⟩
      case round =>
        obtain ⟨k, rfl, hk, hC, hG⟩ := hrel
        have hml : (mix (compress ws bl) ws k).length = 8 := by rw [mix_length _ _ _ HLL.out, HWL.out]
        by_cases hlt : k < 8
        · obtain ⟨x, hx⟩ : ∃ u, F[k]? = some u := ⟨_, List.getElem?_eq_getElem (by rw [HFL.out]; omega)⟩
          obtain ⟨y, hy⟩ : ∃ u, ws[k]? = some u := ⟨_, List.getElem?_eq_getElem (by rw [HWL.out]; omega)⟩
          have hix := run_indexW Tryd.underlying93 sz32 Tryd.underlying90 HFL.out hx
          have ck := hC.at_ (hcells_word (c := c) (bl := bl) hml (show (mix (compress ws bl) ws k)[k]? = some y by rw [mix_get _ _ HLL.out _ _ (Nat.le_refl _), hy]))
          have hak : (compress ws bl)[k]? = some (y + x) := by
            rw [compress, List.getElem?_map, List.getElem?_range hlt, ← HFE.out, Option.map_some, getD_some hx, getD_some hy]
          have hs := mix_set (compress ws bl) ws HLL.out k _ hak
          have a1 := add_u32w y x
          have HS2 := Lib.hid hs
          have HC2 := Lib.hid hC
          have HG2 := Lib.hid hG
          have HML := Lib.hid hml
          have HLT := Lib.hid hlt
          have HCL := Lib.hid (show k < (hcells (mix (compress ws bl) ws k) bl c).length by rw [hcells_length hml HBL.out]; omega)
          have hki : (k : Int) < 8 := by omega
          clear hs hC hG hml hak hx hy
          generalize y + x = z at *
          go_wp2
          go_still_tail 11, (by kernel_rfl)
          repeat still_step
          change wpList _ _ _ _ _ wr.drew
          go_wp2_with (refine wpList_setC sz32 rfl (.tmp 123) (.tmp 120) rfl .u32 _ HC2.out.drew HCL.out rfl rfl ?_; intro w4 h4 g4; rw [hcells_setw HML.out k HLT.out, HS2.out] at h4; have HC4 := Lib.hid h4; have HG4 := Lib.hid (grown_trans' (grown_drew HG2.out) g4); clear h4 g4)
          go_roundw
          case rel => exact ⟨k + 1, by go_num, by have := HLT.out; omega, HC4.out, HG4.out⟩
          case measure => have := HLT.out; simp [intOf]; omega
        · obtain rfl : k = 8 := by omega
          rw [mix_all _ _ (by rw [HWL.out]; exact Nat.le_refl _) (by rw [compress_length]; exact Nat.le_refl _)] at hC
          have HC2 := Lib.hid hC
          have HG2 := Lib.hid hG
          clear hC hG hml
          go_wp2
          go_end0
          exact ⟨rfl, HC2.out, HG2.out⟩
end Go.Proofs.YtndnmjolcilamaaDoor
