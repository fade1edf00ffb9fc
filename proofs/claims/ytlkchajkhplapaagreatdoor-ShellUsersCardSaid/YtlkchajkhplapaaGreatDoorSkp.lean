/- The walk of ShellUsers. -/
import Derived.Test.YtlkchajkhplapaaGreatDoorSko
import Derived.Test.YtlkchajkhplapaaGreatDoorTtb
namespace Go.Proofs.YtlkchajkhplapaaGreatDoor
open Go.RowKit Go.Maps Go.WideMaps

section
variable {w0 w : World} {sb tb mb N : Nat} {M : Tr}
def StatR (w : World) (p : List UInt8) (n : Nd) (e : Ending) (w' : World) : Prop :=
  ∃ A c k l, e = .returned (.tuple #[.agg (nodeC ⟨p.toArray⟩ n.dir n.owner n.mode (.slice A k c)).toArray, .int .i64 0]) ∧ l.length = k ∧ OwnB w 0 5 n.data l ∧ OwnB w' w.heap.size 5 (.slice A k c) l ∧ w.grownBy w' none
theorem s_stat (h : TG w0 w tb mb M) (hS : SndM M) (who s : ByteArray) (p : List UInt8) (hp : s.data.toList = p) (hs : p.length ≤ 300) (n : Nd) (hf : findR M who p = (some n, 0)) :
    Calls Tryz.prog 37 #[.pointer (some ⟨tb, 0, none⟩), .string who, .string s] w (StatR w p n) := by
  refine (stat_any w tb mb M h.ts hS.short who s p hp (by omega)).mono (fun e w' hh => ?_)
  obtain ⟨hb, hh⟩ := hh
  rcases hh with ⟨c, h0, hf', -⟩ | ⟨n', A, c, l, -, hf', h1, he, h2⟩
  · rw [hf] at hf'
    cases hf'
  · rw [hf] at hf'
    cases hf'
    exact ⟨A, c, _, l, he, rfl, h1, h2, none_of_below hb (Nat.le_refl _)⟩
theorem s_list1 (h : TG w0 w tb mb M) (hS : SndM M) (who s : ByteArray) (p : List UInt8) (hp : s.data.toList = p) (hs : p.length ≤ 300) (k : Nat) (hf : listR M who p = 0) (hk : (kidsM M p).length = k) :
    Calls Tryz.prog 38 #[.pointer (some ⟨tb, 0, none⟩), .string who, .string s] w fun e w' => ∃ A c, e = .returned (.tuple #[.slice A k c, .int .i64 0]) ∧ w.grownBy w' none := by
  refine (list_any w tb mb M h.ts (by have := hS.len; omega) hS.slashed who s p hp (by omega)).mono (fun e w' hh => ?_)
  obtain ⟨hb, hh⟩ := hh
  rcases hh with ⟨h0, -⟩ | ⟨h0, u, ss, rfl, hn, ho⟩
  · exact absurd hf h0
  · have hr := keys_row rfl ho
    obtain ⟨A, c, hv, -, -⟩ := hr.shape
    rw [List.length_map, hn.1.length_eq, hk] at hv
    exact ⟨A, c, by rw [hv], none_of_below hb (Nat.le_refl _)⟩
end
theorem sndU (b bo bf : Nat) (A : Option Addr) (c : Nat) (vf : Value) : SndM (MU b bo bf (.slice A 0 c) vf) := by
  refine ⟨⟨_, rfl, rfl⟩, fun p n hp => ?_, fun p n hp hne => ?_, by show 3 ≤ 64; omega⟩
  · unfold MU at hp
    simp only [List.mem_cons, List.not_mem_nil, or_false, Prod.mk.injEq] at hp
    rcases hp with ⟨rfl, rfl⟩ | ⟨rfl, rfl⟩ | ⟨rfl, rfl⟩
    · exact ⟨rfl, by decide, show rootB.size ≤ 1000000 by decide, fun _ => ⟨_, _, rfl⟩⟩
    · exact ⟨rfl, by decide, show zoeB.size ≤ 1000000 by decide, fun _ => ⟨_, _, rfl⟩⟩
    · exact ⟨rfl, by decide, show zoeB.size ≤ 1000000 by decide, fun e => by cases e⟩
  · unfold MU at hp
    simp only [List.mem_cons, List.not_mem_nil, or_false, Prod.mk.injEq] at hp
    rcases hp with ⟨rfl, rfl⟩ | ⟨rfl, rfl⟩ | ⟨rfl, rfl⟩
    · exact absurd rfl hne
    · exact ⟨⟨b, true, rootB, 61, .slice none 0 0⟩, by kernel_rfl, rfl⟩
    · exact ⟨⟨bo, true, zoeB, 56, .slice A 0 c⟩, by kernel_rfl, rfl⟩
theorem sndA (b bo : Nat) (A : Option Addr) (c : Nat) : SndM (MA b bo zoeB (.slice A 0 c)) := by
  refine ⟨⟨_, rfl, rfl⟩, fun p n hp => ?_, fun p n hp hne => ?_, by show 2 ≤ 64; omega⟩
  · unfold MA at hp
    simp only [List.mem_cons, List.not_mem_nil, or_false, Prod.mk.injEq] at hp
    rcases hp with ⟨rfl, rfl⟩ | ⟨rfl, rfl⟩ 
    · exact ⟨rfl, by decide, show rootB.size ≤ 1000000 by decide, fun _ => ⟨_, _, rfl⟩⟩
    · exact ⟨rfl, by decide, show zoeB.size ≤ 1000000 by decide, fun _ => ⟨_, _, rfl⟩⟩
  · unfold MA at hp
    simp only [List.mem_cons, List.not_mem_nil, or_false, Prod.mk.injEq] at hp
    rcases hp with ⟨rfl, rfl⟩ | ⟨rfl, rfl⟩
    · exact absurd rfl hne
    · exact ⟨⟨b, true, rootB, 61, .slice none 0 0⟩, by kernel_rfl, rfl⟩
set_option maxRecDepth 20000 in
set_option maxHeartbeats 16000000 in
theorem walk_ShellUsers (w : World) (htab : TI w) (A : Option Addr) (ls : List Ln) (cap : Nat) (hr : RLn w A ls cap) (_hok : ∀ l ∈ ls, True) (sd : ByteArray) :
    Calls Tryz.prog 6 #[.slice A ls.length cap, .string sd] w fun e w' => e = .returned (.bool true) ∧ Below w.heap.size w w' := by
  obtain ⟨n, hn⟩ : ∃ n, ls.length = n := ⟨_, rfl⟩
  rw [hn]
  have HR := Lib.hid hr
  have HN := Lib.hid hn
  have HTI := Lib.hid htab
  have SP := Lib.hid (shspeaks_any w htab)
  have GR := Lib.hid (fun (W : World) (hg : w.grownBy W none) => greatL_any W A ls n cap hn (hr.made (below_of_none hg)))
  obtain ⟨gb, hgb⟩ : ∃ g, greatL ls = g := ⟨_, rfl⟩
  rw [hgb] at GR
  have HGB := Lib.hid hgb
  have hl1 : n ≤ 9223372036854775807 := by have h1 := hr.1; have := hr.2.1; rw [List.length_map] at h1; unfold maxLen at this; omega
  clear hr _hok hn htab hgb
  cases gb with
  | true =>
    go_enter Tryz.func6, Tryz.ntmps6
    go_wp2_with (first
      | (go_at_call 30; refine SP.out.mono ?_; rintro e w0 ⟨rfl, g0⟩; have G0 := Lib.hid g0; clear g0)
      | (go_at_call 33; refine (GR.out _ G0.out).mono ?_; rintro e w1 ⟨rfl, g1⟩; have G1 := Lib.hid (grown_trans' G0.out g1); clear g1))
    go_ret
    exact ⟨rfl, below_of_none G1.out⟩
  | false =>
  have HSM := Lib.hid (greatL_no HGB.out)
  obtain ⟨dn, hdn⟩ : ∃ dn, sd.size = dn := ⟨_, rfl⟩
  by_cases h60 : 60 < dn
  · have h60i : (60 : Int) < (dn : Int) := by omega
    clear h60
    go_enter Tryz.func6, Tryz.ntmps6
    go_wp2_with (first
      | (go_at_call 30; refine SP.out.mono ?_; rintro e w0 ⟨rfl, g0⟩; have G0 := Lib.hid g0; clear g0)
      | (go_at_call 33; refine (GR.out _ G0.out).mono ?_; rintro e w1 ⟨rfl, g1⟩; have G1 := Lib.hid (grown_trans' G0.out g1); clear g1))
    go_ret
    exact ⟨rfl, below_of_none G1.out⟩
  have h60i : ¬ (60 : Int) < (dn : Int) := by omega
  have HDN := Lib.hid hdn
  have HD60 := Lib.hid (show dn ≤ 60 by omega)
  clear h60
  go_enter Tryz.func6, Tryz.ntmps6
  go_wp2_with (first
    | (go_at_call 30; refine SP.out.mono ?_; rintro e w0 ⟨rfl, g0⟩; have G0 := Lib.hid g0; clear g0)
    | (go_at_call 33; refine (GR.out _ G0.out).mono ?_; rintro e w1 ⟨rfl, g1⟩; have G1 := Lib.hid (grown_trans' G0.out g1); clear g1)
    | (go_at_call 15; refine (new_any _).mono ?_; rintro e w2 ⟨tb, mb, b, rfl, t0⟩; have T2 := Lib.hid t0; clear t0)
    | (go_at_call 34; refine (snew_any T2.out).mono ?_; rintro e w3 ⟨sb, rfl, sg3⟩; have S3 := Lib.hid sg3; clear sg3)
    | (go_at_call 23; refine (s_mkdir_ok S3.out (snd0 b) rootB _ (by decide) pOwn rfl (by decide) 56 (mk0 b)).mono ?_; rintro e w4 ⟨rfl, bo, A4, c4, sg4⟩; have S4 := Lib.hid (show SG w1 w4 sb tb mb (MA b bo rootB (.slice A4 0 c4)) 0 from sg4); clear sg4)
    | (go_at_call 21; refine (s_give_ok S4.out rootB _ zoeB pOwn rfl (by decide) (by decide) _ (gv0 b bo _) (by unfold MA; simp)).mono ?_; rintro e w5 ⟨rfl, sg5⟩; rw [turn0] at sg5; have S5 := Lib.hid sg5; clear sg5; obtain ⟨A6, c6, w6, kv, o6, g6, -⟩ := run_convO (w := w5) (src := 9) Tryz.underlying9 sd (by have := HDN.out; have := HD60.out; omega) dn HDN.out; have O6 := Lib.hid o6; have S6 := Lib.hid (S5.out.made g6); clear o6 g6)
    | (go_at_call 25
       refine (s_write S6.out (sndA b bo A4 c4) zoeB _ (by decide) pOwnF rfl (by decide) A6 sd.data.toList dn c6 (O6.out.rb rfl).2 (O6.out.rb rfl).1 56).mono ?_
       rintro e w7 ⟨rfl, M', sw, hput⟩
       have hz := wr0 b bo (.slice A4 0 c4) dn (by have := HD60.out; omega)
       obtain ⟨bf, vf, rfl, hv⟩ := hput hz (lkU b bo _)
       rw [hz]
       have S7 := Lib.hid (show SG w1 w7 sb tb mb (MU b bo bf (.slice A4 0 c4) vf) 0 from sw.1)
       have HV := Lib.hid hv
       have HTI1 := Lib.hid (HTI.out.on G1.out)
       clear sw hput hz hv kv))
  go_loopw [50] (fun iv wr => ∃ (i N : Nat), iv = .int .i64 i ∧ i ≤ n ∧ N ≤ 5 * i ∧ Hid (SG w1 wr sb tb mb (MU b bo bf (.slice A4 0 c4) vf) N) ∧ Hid (OwnB wr 0 5 vf sd.data.toList)) (fun iv _ => n - (intOf iv).toNat)
  case atStart => exact ⟨0, 0, rfl, Nat.zero_le _, Nat.le_refl _, S7.out, HV.out⟩
  case round =>
    obtain ⟨i, N, rfl, hi, hN, HS, HO⟩ := hrel
    have HGW := Lib.hid (grown_trans' G1.out HS.out.tg.gr)
    by_cases hlt : i < n
    · have hii : (i : Int) < (n : Int) := by omega
      obtain ⟨o, ho⟩ : ∃ o, ls[i]? = some o := ⟨_, List.getElem?_eq_getElem (by rw [HN.out]; exact hlt)⟩
      obtain ⟨bk, off, rfl, hb, hc⟩ := HR.out.at_ ho
      have be := below_of_none HGW.out
      have q0 : wr.cell? ⟨bk, off + i * 2, none⟩ = some (.string o.who) := (be.cell (p := ⟨bk, off + i * 2, none⟩) hb).trans (hc 0 _ rfl)
      have q1 : wr.cell? ⟨bk, off + i * 2 + 1, none⟩ = some (.string o.line) := (be.cell (p := ⟨bk, off + i * 2 + 1, none⟩) hb).trans (hc 1 _ rfl)
      have HOS := Lib.hid (HSM.out.2 o (List.mem_of_getElem? ho))
      have HNN := Lib.hid (show N + 5 ≤ 1000 by have := HSM.out.1; have := HN.out; omega)
      have HN5 := Lib.hid hN
      clear hc ho hb be hN
      obtain ⟨ow, ol⟩ := o
      simp only at q0 q1 HOS
      obtain ⟨wa, hwa⟩ : ∃ x, x = wr.alloc (.cells #[.string ow, .string ol] 55) := ⟨_, rfl⟩
      have GA := Lib.hid (show wr.grownBy wa none by rw [hwa]; exact grown_alloc _ _ _)
      have CA := Lib.hid (show CB wa wr.heap.size 55 [.string ow, .string ol] by rw [hwa]; exact CB.new _ _ _)
      have HWA := Lib.hid hwa
      clear hwa
      by_cases ez : ow = ⟨#[122, 111, 101]⟩
      · subst ez
        have HSA := Lib.hid (HS.out.made GA.out)
        have HOA := Lib.hid (HO.out.below (below_of_none GA.out))
        rw [HWA.out] at HSA HOA
        go_wp2
        go_roundw
        case rel => exact ⟨i + 1, N, by go_num, by omega, by have := HN5.out; omega, HSA.out, HOA.out⟩
        case measure => simp [intOf]; omega
      have z1 := str_ne ez
      have z2 : (ow.toList == [122, 111, 101]) = false := by rw [show ([122, 111, 101] : List UInt8) = (⟨#[122, 111, 101]⟩ : ByteArray).toList from by rw [ByteArray.toList_eq]]; exact z1
      by_cases er : ow = ⟨#[114, 111, 111, 116]⟩
      · subst er
        have HSA := Lib.hid (HS.out.made GA.out)
        have HOA := Lib.hid (HO.out.below (below_of_none GA.out))
        rw [HWA.out] at HSA HOA
        go_wp2
        go_roundw
        case rel => exact ⟨i + 1, N, by go_num, by omega, by have := HN5.out; omega, HSA.out, HOA.out⟩
        case measure => simp [intOf]; omega
      have y1 := str_ne er
      have y2 : (ow.toList == [114, 111, 111, 116]) = false := by rw [show ([114, 111, 111, 116] : List UInt8) = (⟨#[114, 111, 111, 116]⟩ : ByteArray).toList from by rw [ByteArray.toList_eq]]; exact y1
      have HOUT := Lib.hid (out_zoe (b := b) (bo := bo) (bf := bf) (v := .slice A4 0 c4) (vf := vf) (who := ow) er ez)
      have SA := Lib.hid (HS.out.made GA.out)
      have OA := Lib.hid (HO.out.below (below_of_none GA.out))
      have SNU := Lib.hid (sndU b bo bf A4 c4 vf)
      have TK0 := Lib.hid True.intro
      clear ez er
      go_wp2_with (first
        | (have hx := TK0; go_at_call 35
           rw [show wr.alloc (.cells #[.string ow, .string ol] 55) = wa from HWA.out.symm]
           refine (run_out SA.out SNU.out (by have := HNN.out; omega) HTI1.out ow HOS.out.1 HOUT.out _ (by have := HOS.out.2; omega)).mono ?_
           rintro e x1 ⟨v1, rfl, sg, kp⟩
           have SB := Lib.hid sg
           have CB1 := Lib.hid (show CB x1 wr.heap.size 55 [.string ow, .string ol] from kp.blk _ _ _ _ CA.out (by decide))
           have OB1 := Lib.hid (show OwnB x1 0 5 vf sd.data.toList from kp.own OA.out (by decide))
           have k1 := CB1.out.at_ (i := 0) (v := .string ow) rfl
           clear hx TK0 sg kp
           have TK1 := Lib.hid True.intro)
        | (have hx := TK1; go_at_call 35
           refine (run_out SB.out SNU.out (by have := HNN.out; omega) HTI1.out ow HOS.out.1 HOUT.out _ (by decide)).mono ?_
           rintro e x2 ⟨v2, rfl, sg, kp⟩
           have SC := Lib.hid sg
           have CB2 := Lib.hid (show CB x2 wr.heap.size 55 [.string ow, .string ol] from kp.blk _ _ _ _ CB1.out (by decide))
           have OB2 := Lib.hid (show OwnB x2 0 5 vf sd.data.toList from kp.own OB1.out (by decide))
           have k2 := CB2.out.at_ (i := 0) (v := .string ow) rfl
           clear hx TK1 sg kp k1
           have TK2 := Lib.hid True.intro)
        | (have hx := TK2; go_at_call 35
           refine (run_out SC.out SNU.out (by have := HNN.out; omega) HTI1.out ow HOS.out.1 HOUT.out _ (by decide)).mono ?_
           rintro e x3 ⟨v3, rfl, sg, kp⟩
           have SD := Lib.hid sg
           have CB3 := Lib.hid (show CB x3 wr.heap.size 55 [.string ow, .string ol] from kp.blk _ _ _ _ CB2.out (by decide))
           have OB3 := Lib.hid (show OwnB x3 0 5 vf sd.data.toList from kp.own OB2.out (by decide))
           have k3 := CB3.out.at_ (i := 0) (v := .string ow) rfl
           clear hx TK2 sg kp k2
           have TK3 := Lib.hid True.intro)
        | (have hx := TK3; go_at_call 35
           refine (run_out SD.out SNU.out (by have := HNN.out; omega) HTI1.out ow HOS.out.1 HOUT.out _ (by decide)).mono ?_
           rintro e x4 ⟨v4, rfl, sg, kp⟩
           have SE := Lib.hid sg
           have CB4 := Lib.hid (show CB x4 wr.heap.size 55 [.string ow, .string ol] from kp.blk _ _ _ _ CB3.out (by decide))
           have OB4 := Lib.hid (show OwnB x4 0 5 vf sd.data.toList from kp.own OB3.out (by decide))
           have k4 := CB4.out.at_ (i := 0) (v := .string ow) rfl
           clear hx TK3 sg kp k3
           have TK4 := Lib.hid True.intro)
        | (have hx := TK4; go_at_call 35
           refine (run_out SE.out SNU.out (by have := HNN.out; omega) HTI1.out ow HOS.out.1 HOUT.out _ (by decide)).mono ?_
           rintro e x5 ⟨v5, rfl, sg, kp⟩
           have SF := Lib.hid sg
           have OB5 := Lib.hid (show OwnB x5 0 5 vf sd.data.toList from kp.own OB4.out (by decide))
           clear hx TK4 sg kp k4
           have TK5 := Lib.hid True.intro))
      go_roundw
      case rel => exact ⟨i + 1, N + 1 + 1 + 1 + 1 + 1, by go_num, by omega, by have := HN5.out; omega, SF.out, OB5.out⟩
      case measure => simp [intOf]; omega
    · have hii : ¬ (i : Int) < (n : Int) := by omega
      have SNU := Lib.hid (sndU b bo bf A4 c4 vf)
      have TE0 := Lib.hid True.intro
      go_wp2_with (first
        | (have hx := TE0; go_at_call 37
           refine (s_stat HS.out.tg SNU.out rootB _ pOwnF rfl (by decide) _ (find_f b bo bf _ vf)).mono ?_
           rintro e y1 ⟨A7, c7, k7, l7, rfl, hk7, o7, p7, g7⟩
           obtain rfl : l7 = sd.data.toList := o7.uniq HO.out
           have P7 := Lib.hid (OwnB.base_ p7 (Nat.zero_le _))
           have K7 := Lib.hid hk7
           have G7 := Lib.hid g7
           clear hx TE0 hk7 o7 p7 g7
           have TE1 := Lib.hid True.intro)
        | (have hx := TE1; clear hx; refine wpList_allocC zeroNd_run rfl rfl ?_)
        | (have hx := TE1; clear hx TE1
           refine wpList_storeC (off := 0) (p := nodeC ⟨pOwnF.toArray⟩ false zoeB 56 (.slice A7 k7 c7)) aggNd.hi rfl (.tmp 9) (.tmp 88) rfl (.agg (nodeC ⟨pOwnF.toArray⟩ false zoeB 56 (.slice A7 k7 c7)).toArray) rfl (nd_one _ _ _ _ _ _ _) (CB.new y1 63 zeroNd) rfl (Nat.le_refl _) (by first | rfl | go_simp) (by first | rfl | go_simp) ?_
           intro y2 h2 g2
           have C2 := Lib.hid (show CB y2 y1.heap.size 63 (nodeC ⟨pOwnF.toArray⟩ false zoeB 56 (.slice A7 k7 c7)) from h2)
           have J2 := Lib.hid (none_new (grown_alloc y1 (.cells zeroNd.toArray 63) none) g2 (Nat.le_refl _))
           have G2 := Lib.hid (grown_trans' G7.out J2.out)
           clear h2 g2
           have TE2 := Lib.hid True.intro)
        | (have hx := TE2; go_at_call 37
           refine (s_stat (HS.out.tg.below (below_of_none G2.out)) SNU.out rootB _ pOwn rfl (by decide) _ (find_d b bo bf _ vf)).mono ?_
           rintro e y3 ⟨A8, c8, k8, l8, rfl, hk8, o8, p8, g8⟩
           have G3 := Lib.hid (grown_trans' G2.out g8)
           have J3 := Lib.hid (grown_trans' J2.out g8)
           have C3 := Lib.hid (C2.out.kept g8)
           clear hx TE2 hk8 o8 p8 g8
           have TE3 := Lib.hid True.intro)
        | (have hx := TE3; clear hx; refine wpList_allocC zeroNd_run rfl rfl ?_)
        | (have hx := TE3; clear hx TE3
           refine wpList_storeC (off := 0) (p := nodeC ⟨pOwn.toArray⟩ true zoeB 56 (.slice A8 k8 c8)) aggNd.hi rfl (.tmp 11) (.tmp 93) rfl (.agg (nodeC ⟨pOwn.toArray⟩ true zoeB 56 (.slice A8 k8 c8)).toArray) rfl (nd_one _ _ _ _ _ _ _) (CB.new y3 63 zeroNd) rfl (Nat.le_refl _) (by first | rfl | go_simp) (by first | rfl | go_simp) ?_
           intro y4 h4 g4
           have D4 := Lib.hid (show CB y4 y3.heap.size 63 (nodeC ⟨pOwn.toArray⟩ true zoeB 56 (.slice A8 k8 c8)) from h4)
           have L4 := Lib.hid (none_new (grown_alloc y3 (.cells zeroNd.toArray 63) none) g4 (Nat.le_refl _))
           have G4 := Lib.hid (grown_trans' G3.out L4.out)
           have J4 := Lib.hid (grown_trans' J3.out L4.out)
           have C4 := Lib.hid (C3.out.kept L4.out)
           clear h4 g4
           have TE4 := Lib.hid True.intro)
        | (have hx := TE4; go_at_call 38
           refine (s_list1 (HS.out.tg.below (below_of_none G4.out)) SNU.out rootB _ pOwn rfl (by decide) 1 (list_d b bo bf _ vf) (kids_d b bo bf _ vf)).mono ?_
           rintro e y5 ⟨A9, c9, rfl, g9⟩
           have G5 := Lib.hid (grown_trans' G4.out g9)
           have hc5 := C4.out.kept g9
           have hd5 := D4.out.kept g9
           have ho5 := P7.out.below (below_of_none (grown_trans' J4.out g9))
           have b4 := hc5.at_ (i := 4) (v := .slice A7 k7 c7) rfl
           have b2 := hc5.at_ (i := 2) (v := .string ⟨#[122, 111, 101]⟩) rfl
           have b3 := hc5.at_ (i := 3) (v := .int .i64 56) rfl
           have d3 := hd5.at_ (i := 3) (v := .int .i64 56) rfl
           have kv : (convert 29 9 (.slice A7 k7 c7)).run Tryz.prog y5 = .ok (.string sd) y5 := by
             have h1 := conv_own ho5 K7.out
             rwa [← bytes_of (rfl : sd.data.toList = sd.data.toList)] at h1
           clear hx TE4 g9 hc5 hd5 ho5
           have TE5 := Lib.hid True.intro))
      go_ret
      exact ⟨rfl, below_of_none (grown_trans' HGW.out G5.out)⟩
end Go.Proofs.YtlkchajkhplapaaGreatDoor
